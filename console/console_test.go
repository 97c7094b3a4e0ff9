package console

import (
	"slices"
	"strconv"
	"strings"
	"testing"

	"mortmain/api"
	"mortmain/code"
	"mortmain/engine"
)

// replies holds a script's lines against what they are to be answered.
func replies(t *testing.T, script ...[2]string) {
	t.Helper()
	var text, want []string
	for _, l := range script {
		text, want = append(text, l[0]), append(want, l[1])
	}
	got := Lines(strings.Join(text, "\n"))
	if len(got) != len(want) {
		t.Fatalf("%d replies to %d lines: %q", len(got), len(want), got)
	}
	for i := range want {
		if got[i] != want[i] {
			t.Errorf("line %d, %q: %q, not %q", i, text[i], got[i], want[i])
		}
	}
}

// P23.1
func TestNumber(t *testing.T) {
	for s, want := range map[string]int{"0": 0, "7": 7, "-7": -7, "-0": 0, "007": 7, "000000001": 1, "123456789": 123456789, "-999999999": -999999999} {
		if n, ok := Number(s); n != want || !ok {
			t.Error(s, n, ok)
		}
	}
	for _, s := range []string{"", "-", "+1", "--1", "1-", "1234567890", "0000000001", "-1234567890", "1 ", " 1", "1a", "a", "1.0", "0x1", "1_0", "٣", "１", "\xff", "1\x00", "-\x00", "99999999999999999999999"} {
		if n, ok := Number(s); n != 0 || ok {
			t.Errorf("%q: %d, %v", s, n, ok)
		}
	}
}

// P23.1
func TestSaid(t *testing.T) {
	for want, a := range map[string]engine.Answer{"0": {}, "-3": {V: -3}, "120": {V: 120}, "error 12": {V: 5, E: api.ErrFuel}, "error 33": {E: api.ErrLine}, "error 1": {E: api.ErrArg}} {
		if s := Said(a); s != want {
			t.Error(a, s)
		}
	}
}

// P23.2: lines of which there are none, by their words.
func TestLinesThatAreNone(t *testing.T) {
	wrong := []string{
		"x", "Heap 1 2 3", "heap", "heap 1 2", "heap 1 2 3 4", "heap a 2 3", "heap 1 2 1234567890", "prog", "prog a", "prog 0 1", "prog 0 1 2 3", "prog 0 3 0 0 0 1",
		"prog 9 1 2", "new 0 0", "new 0 0 -1 0", "copy 0", "copy 0 0 0", "drop", "drop 0 0", "load 0 0", "store 0 0", "store 0 0 0 0", "weak 0 0", "up 0", "pair 0", "get 0",
		"same 0", "same 0 0 0", "collect 0", "drain", "drain 1 1", "lives 0", "roots 0", "tally 0", "lives x", "new 0 0 --1", "new\v0 0 0", "lives\u00a0", "0", "-1", "\xff",
	}
	var script [][2]string
	for _, l := range wrong {
		script = append(script, [2]string{l, "error 33"})
	}
	script = append(script, [2]string{"lives", "no heap"}, [2]string{"heap 1 0 1", "ok"})
	for _, l := range wrong {
		script = append(script, [2]string{l, "error 33"})
	}
	replies(t, append(script, [2]string{"tally", "tally 1 0 0 0"})...)
}

// P23.2
func TestAheadOfAnEngine(t *testing.T) {
	replies(t, [2]string{"lives", "no heap"}, [2]string{"roots", "no heap"}, [2]string{"tally", "no heap"}, [2]string{"new 0 0 -1", "no heap"}, [2]string{"copy 9 9", "no heap"},
		[2]string{"drop 0", "no heap"}, [2]string{"load 0 0 0", "no heap"}, [2]string{"store 0 0 0", "no heap"}, [2]string{"weak 0 0 0", "no heap"}, [2]string{"up 0 0", "no heap"},
		[2]string{"pair 0 0", "no heap"}, [2]string{"get 0 0", "no heap"}, [2]string{"same 0 0", "no heap"}, [2]string{"collect", "no heap"}, [2]string{"drain 201", "no heap"},
		[2]string{"prog 0", "ok"}, [2]string{"lives", "no heap"}, [2]string{"heap 0 0 1", "error 1"}, [2]string{"lives", "no heap"}, [2]string{"heap 1 0 1", "ok"}, [2]string{"lives", "lives"})
}

// P23.2: each command does the row of its kind, with the numbers in their order.
func TestEachCommand(t *testing.T) {
	replies(t, [2]string{"heap 5 9 2", "ok"}, [2]string{"roots", "roots 0 0 0 0 0 0"}, [2]string{"tally", "tally 5 0 0 0"},
		[2]string{"new 1 4 -1", "1"}, [2]string{"new 2 0 -1", "2"}, [2]string{"copy 5 2", "2"}, [2]string{"store 1 3 2", "2"}, [2]string{"store 1 2 -1", "0"}, [2]string{"load 0 1 3", "2"},
		[2]string{"load 4 1 2", "0"}, [2]string{"roots", "roots 2 1 2 0 0 2"}, [2]string{"weak 3 1 -1", "1"}, [2]string{"up 4 3", "1"}, [2]string{"pair 2 1", "1"}, [2]string{"get 3 5", "1"},
		[2]string{"same 3 4", "1"}, [2]string{"same 3 5", "0"}, [2]string{"drop 3", "0"}, [2]string{"pair 2 -1", "0"}, [2]string{"get 3 2", "error 9"},
		[2]string{"store 1 0 1", "1"}, [2]string{"drop 1", "0"}, [2]string{"drop 4", "0"}, [2]string{"lives", "lives 1 2"}, [2]string{"collect", "1"}, [2]string{"lives", "lives 2"},
		[2]string{"tally", "tally 3 1 1 0"}, [2]string{"drain 0", "0"}, [2]string{"drain 201", "error 12"}, [2]string{"new 6 0 0", "error 6"}, [2]string{"new 0 5 0", "error 1"}, [2]string{"new 0 0 6", "error 13"},
		[2]string{"up 0 6", "error 7"}, [2]string{"load 0 4 0", "error 2"}, [2]string{"load 0 2 4", "error 5"})
}

// P23.2: programs are those that stood there when the heap was begun.
func TestPrograms(t *testing.T) {
	replies(t, [2]string{"prog 2 2 4 5 0 3 3 0 0", "ok"}, [2]string{"heap 2 9 1", "ok"}, [2]string{"prog 2", "ok"},
		[2]string{"new 0 0 2", "1"}, [2]string{"drop 0", "0"}, [2]string{"drain 2", "error 12"}, [2]string{"drain 3", "1"}, [2]string{"roots", "roots 0 0 0 0 1 0"},
		[2]string{"heap 2 9 1", "ok"}, [2]string{"lives", "lives"}, [2]string{"new 0 0 2", "1"}, [2]string{"drop 0", "0"}, [2]string{"drain 1", "1"}, [2]string{"lives", "lives"})
}

// P23.2: a program that is set leaves the others as they are, and those that are not there are empty.
func TestProgramsStandBesideEachOther(t *testing.T) {
	replies(t, [2]string{"prog 0 2 0 5 0", "ok"}, [2]string{"prog 3 2 1 5 0", "ok"}, [2]string{"prog 1 2 2 5 0 3 5 0 0", "ok"}, [2]string{"heap 3 9 1", "ok"},
		[2]string{"new 5 0 0", "1"}, [2]string{"new 5 0 1", "2"}, [2]string{"new 5 0 3", "3"}, [2]string{"drop 5", "0"},
		[2]string{"drain 7", "3"}, [2]string{"roots", "roots 1 3 2 0 0 0"}, [2]string{"new 5 0 2", "error 4"},
		[2]string{"drop 0", "0"}, [2]string{"new 5 0 2", "4"}, [2]string{"drop 5", "0"}, [2]string{"drain 1", "1"}, [2]string{"lives", "lives 2 3"})
}

// P23.2: with an error nothing changes.
func TestProgramsThatMayNotBe(t *testing.T) {
	six, seven := strings.Repeat(" 3 0 0 0", 6), strings.Repeat(" 3 0 0 0", 7)
	replies(t, [2]string{"prog 0 2 4 5 0", "ok"}, [2]string{"prog 0 2 6 5 0", "error 13"}, [2]string{"prog 0 11 0 0 0", "error 13"}, [2]string{"prog 0 3 0 0 0 12 0 0 0", "error 13"},
		[2]string{"prog 0" + seven, "error 13"}, [2]string{"prog 6", "error 13"}, [2]string{"prog -1", "error 13"}, [2]string{"prog 999999999", "error 13"}, [2]string{"prog 5 0 0 0 0", "error 13"},
		[2]string{"heap 1 9 1", "ok"}, [2]string{"new 0 0 0", "1"}, [2]string{"drop 0", "0"}, [2]string{"drain 1", "error 12"}, [2]string{"drain 2", "1"}, [2]string{"lives", "lives 1"},
		[2]string{"prog 5" + six, "ok"}, [2]string{"prog 5" + seven, "error 13"}, [2]string{"heap 1 9 1", "ok"}, [2]string{"new 0 0 5", "1"}, [2]string{"drop 0", "0"}, [2]string{"drain 6", "error 12"}, [2]string{"drain 7", "1"})
}

// P23.2: an engine that cannot be leaves the one that is.
func TestHeapErrors(t *testing.T) {
	replies(t, [2]string{"heap 2 9 1", "ok"}, [2]string{"new 0 0 -1", "1"}, [2]string{"heap 0 9 1", "error 1"}, [2]string{"heap 25 9 1", "error 1"}, [2]string{"heap 2 10 1", "error 1"},
		[2]string{"heap 2 -1 1", "error 1"}, [2]string{"heap 2 9 0", "error 1"}, [2]string{"heap 2 9 9", "error 1"}, [2]string{"lives", "lives 1"}, [2]string{"heap 24 0 8", "ok"}, [2]string{"tally", "tally 24 0 0 0"})
}

// P23.2: collect tells what is queued below 0.
func TestCollect(t *testing.T) {
	replies(t, [2]string{"prog 0", "ok"}, [2]string{"heap 2 9 1", "ok"}, [2]string{"new 0 1 0", "1"}, [2]string{"store 0 0 0", "1"}, [2]string{"drop 0", "0"},
		[2]string{"collect", "-1"}, [2]string{"collect", "0"}, [2]string{"drain 200", "1"}, [2]string{"collect", "1"}, [2]string{"collect", "0"})
}

// P23.2
func TestBlanksAndEmptyLines(t *testing.T) {
	got := Lines("\n \t\r\n\theap\r 1 \t 0  1 \r\n\n  lives\r\n\r\nlives")
	if !slices.Equal(got, []string{"ok", "lives", "lives"}) {
		t.Errorf("%q", got)
	}
	for _, s := range []string{"", "\n", " \r\t\n\n "} {
		if got := Lines(s); len(got) != 0 {
			t.Errorf("%q: %q", s, got)
		}
	}
	if got := Lines("lives\vlives\nlives\flives\nlives\u0085\n\x00"); !slices.Equal(got, []string{"error 33", "error 33", "error 33", "error 33"}) {
		t.Errorf("%q", got)
	}
}

// P23.3
func TestAsManyRepliesAsLinesWithAWord(t *testing.T) {
	seed := uint32(23)
	next := func(n int) int {
		seed = seed*1664525 + 1013904223
		return int(seed>>8) % n
	}
	words := []string{"heap", "prog", "new", "copy", "drop", "lives", "0", "1", "-1", "9", "\n", "\n", "\t", "\r", "x", "\xfe", "\v"}
	for range 3000 {
		var s strings.Builder
		for range next(40) {
			s.WriteString(words[next(len(words))] + []string{" ", "", "\n"}[next(3)])
		}
		want := 0
		for _, line := range strings.Split(s.String(), "\n") {
			if strings.Trim(line, "\t\r ") != "" {
				want++
			}
		}
		if got := Lines(s.String()); len(got) != want {
			t.Fatalf("%q: %d replies, not %d", s.String(), len(got), want)
		}
	}
}

// P23.2: the console is the engine, by text.
func TestTheConsoleIsTheEngine(t *testing.T) {
	names := map[int]string{code.New: "new", code.Copy: "copy", code.Drop: "drop", code.Load: "load", code.Store: "store", code.Weak: "weak", code.Up: "up",
		code.Pair: "pair", code.Get: "get", code.Same: "same", code.Collect: "collect", code.Drain: "drain"}
	parts := map[int]int{code.New: 3, code.Copy: 2, code.Drop: 1, code.Load: 3, code.Store: 3, code.Weak: 3, code.Up: 2, code.Pair: 2, code.Get: 2, code.Same: 2, code.Collect: 0, code.Drain: 1}
	seed := uint32(29)
	next := func(n int) int {
		seed = seed*1664525 + 1013904223
		return int(seed>>8) % n
	}
	for range 60 {
		g, _ := engine.New(4, 9, 2, [][]code.Op{{{Kind: code.Copy, A: 1, B: 5}}})
		text, want := "prog 0 2 1 5 0\nheap 4 9 2\n", []string{"ok", "ok"}
		for range 50 {
			row := make([]int, 4)
			row[0] = 1 + next(12)
			line := names[row[0]]
			for i := range parts[row[0]] {
				row[i+1] = next(7) - 1
				line += " " + strconv.Itoa(row[i+1])
			}
			var a engine.Answer
			g, a = engine.Do(g, row)
			text, want = text+line+"\n", append(want, Said(a))
		}
		if got := Lines(text); !slices.Equal(got, want) {
			t.Fatalf("%q\n%q\n%q", text, got, want)
		}
	}
}
