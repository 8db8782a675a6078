package script_test

import (
	"fmt"
	"math"
	"regexp"
	"slices"
	"strconv"
	"strings"
	"testing"

	"mudlark/api"
	"mudlark/op"
	"mudlark/script"
)

var (
	least = api.Config{Cells: 2, Muts: 1, Regs: 1, Globs: 0}
	pair  = api.Config{Cells: 2, Muts: 2, Regs: 1, Globs: 1}
	some  = api.Config{Cells: 10, Muts: 12, Regs: 13, Globs: 14}
	most  = api.Config{Cells: 4096, Muts: 63, Regs: 64, Globs: 64}
)

const (
	leastHead = "cells 2 muts 1 regs 1 globs 0\n"
	pairHead  = "cells 2 muts 2 regs 1 globs 1\n"
	someHead  = "cells 10 muts 12 regs 13 globs 14\n"
	mostHead  = "cells 4096 muts 63 regs 64 globs 64\n"
)

// heads are first lines that are right, and what they are.
func heads() map[string]api.Config {
	return map[string]api.Config{leastHead: least, pairHead: pair, someHead: some, mostHead: most}
}

// The operations that many tests do.
var (
	set  = api.Op{Kind: api.OpSet, B: 5}
	cons = api.Op{Kind: api.OpCons, A: 1, B: 2, C: 3}
	atom = api.Op{Kind: api.OpAtom, A: 4}
)

// empty is a script without operations and picks.
func empty(c api.Config) api.Script {
	return api.Script{Config: c, Programs: make([][]api.Op, max(c.Muts, 0))}
}

// with is a script with these picks.
func with(c api.Config, picks ...int) api.Script {
	s := empty(c)
	s.Picks = picks
	return s
}

// does is a script in which one mutator has these operations.
func does(c api.Config, m int, l ...api.Op) api.Script {
	s := empty(c)
	s.Programs[m] = l
	return s
}

// same holds scripts against each other, part by part; a nil list and one without elements are the same thing.
func same(a, b api.Script) bool {
	if a.Config != b.Config || len(a.Programs) != len(b.Programs) || !slices.Equal(a.Picks, b.Picks) {
		return false
	}
	for m, l := range a.Programs {
		if !slices.Equal(l, b.Programs[m]) {
			return false
		}
	}
	return true
}

// deep is a script that shares no memory with another one that is the same.
func deep(s api.Script) api.Script {
	c := api.Script{Config: s.Config, Picks: slices.Clone(s.Picks)}
	for _, l := range s.Programs {
		c.Programs = append(c.Programs, slices.Clone(l))
	}
	return c
}

// brief is what a test tells of a script, which may be long.
func brief(s api.Script) string {
	return fmt.Sprintf("%d picks, %.400s", len(s.Picks), fmt.Sprintf("%+v", s))
}

func mustParse(t *testing.T, text string, want api.Script) {
	t.Helper()
	if s, n, e := script.Parse(text); !same(s, want) || n != 0 || e != api.OK {
		t.Errorf("Parse(%.200q) = %s; %d, %d, not %s", text, brief(s), n, e, brief(want))
	}
}

func mustRefuse(t *testing.T, text string, line int, want api.Errno) {
	t.Helper()
	if s, n, e := script.Parse(text); !same(s, api.Script{}) || n != line || e != want {
		t.Errorf("Parse(%.200q) = %s; %d, %d, not the line %d, %d", text, brief(s), n, e, line, want)
	}
}

func mustText(t *testing.T, s api.Script, want string) {
	t.Helper()
	if text, ok := script.Text(s); text != want || !ok {
		t.Errorf("Text(%s) = %.200q, %v, not %.200q", brief(s), text, ok, want)
	}
}

func mustHaveNoText(t *testing.T, s api.Script) {
	t.Helper()
	if text, ok := script.Text(s); text != "" || ok {
		t.Errorf("Text(%s) = %.200q, %v", brief(s), text, ok)
	}
}

// mustReadAgain holds that a script has a text, and that it is the script of that.
func mustReadAgain(t *testing.T, s api.Script) {
	t.Helper()
	text, ok := script.Text(s)
	if !ok {
		t.Fatalf("Text(%s) is false", brief(s))
	}
	mustParse(t, text, s)
	again, _, _ := script.Parse(text)
	if !script.Same(s, again) || !script.Same(again, s) {
		t.Errorf("%s, read again, is %s", brief(s), brief(again))
	}
}

// drawn are numbers below n, in an order that is none, the same each time.
func drawn(seed int) func(n int) int {
	x := uint64(seed)*0x9e3779b97f4a7c15 + 0x1234567
	return func(n int) int {
		x = x*6364136223846793005 + 1442695040888963407
		return int(x >> 33 % uint64(n))
	}
}

// has is how many numbers each kind of operation has.
func has() [12]int {
	return [12]int{0, 2, 2, 3, 2, 2, 2, 2, 2, 2, 2, 1}
}

// anyOp is an operation with numbers of all sizes, and 0 for those that it hasn't.
func anyOp(draw func(int) int) api.Op {
	numbers := []int{0, 1, 2, 9, 10, 63, 64, 100, 999_999, 1_000_000, 1 << 32, math.MaxInt - 1, math.MaxInt}
	x := api.Op{Kind: 1 + draw(11)}
	for i := range has()[x.Kind] {
		*[]*int{&x.A, &x.B, &x.C}[i] = numbers[draw(len(numbers))]
	}
	return x
}

// anyScript is a script that has a text.
func anyScript(seed int) api.Script {
	draw := drawn(seed)
	s := empty([]api.Config{least, pair, some, most}[draw(4)])
	for range draw(12) {
		m := draw(len(s.Programs))
		s.Programs[m] = append(s.Programs[m], anyOp(draw))
	}
	for range draw(12) {
		s.Picks = append(s.Picks, draw([]int{2, 64, 1000, 1_000_000}[draw(4)]))
	}
	return s
}

// wrongConfigs are configurations that aren't right.
func wrongConfigs() []api.Config {
	l := []api.Config{{}}
	for _, c := range []api.Config{least, pair, most} {
		for _, n := range []int{math.MinInt, -1 << 32, -1, 5000, 1 << 32, 1<<32 + 2, math.MaxInt} {
			l = append(l, api.Config{Cells: n, Muts: c.Muts, Regs: c.Regs, Globs: c.Globs}, api.Config{Cells: c.Cells, Muts: n, Regs: c.Regs, Globs: c.Globs})
			l = append(l, api.Config{Cells: c.Cells, Muts: c.Muts, Regs: n, Globs: c.Globs}, api.Config{Cells: c.Cells, Muts: c.Muts, Regs: c.Regs, Globs: n})
			l = append(l, api.Config{Cells: n, Muts: n, Regs: n, Globs: n})
		}
	}
	return append(l,
		api.Config{Cells: 1, Muts: 1, Regs: 1}, api.Config{Cells: 2, Regs: 1}, api.Config{Cells: 2, Muts: 1}, api.Config{Cells: 4097, Muts: 1, Regs: 1},
		api.Config{Cells: 2, Muts: 64, Regs: 1}, api.Config{Cells: 2, Muts: 1, Regs: 65}, api.Config{Cells: 2, Muts: 1, Regs: 1, Globs: 65},
	)
}

// The chapter's example.
func TestExample(t *testing.T) {
	const text = "cells 2 muts 1 regs 1 globs 0\nop 0 cons 0 0 0\nrounds 2\n"
	want := api.Script{Config: least, Programs: [][]api.Op{{{Kind: api.OpCons}}}, Picks: []int{0, 1, 0, 1}}
	mustParse(t, text, want)
	mustText(t, want, "cells 2 muts 1 regs 1 globs 0\nop 0 cons 0 0 0\npick 0 1 0 1\n")
	if got := script.Rounds(least, 2); !slices.Equal(got, want.Picks) {
		t.Errorf("Rounds of 2 are %v", got)
	}
}

// P21.1

func TestParseByHand(t *testing.T) {
	mustParse(t, leastHead, empty(least))
	mustParse(t, leastHead+"op 0 set 0 5\n", does(least, 0, set))
	mustParse(t, leastHead+"pick 7\n", with(least, 7))
	mustParse(t, leastHead+"pick 7 8 7\n", with(least, 7, 8, 7))
	mustParse(t, leastHead+"rounds 1\n", with(least, 0, 1))
	mustParse(t, pairHead+"rounds 2\n", with(pair, 0, 1, 2, 0, 1, 2))
	mustParse(t, pairHead+"pick 9\nop 1 set 0 5\nrounds 1\nop 0 cons 1 2 3\npick 3 2\nop 1 atom 4\nop 0 set 0 5\npick 0\n", api.Script{
		Config: pair, Programs: [][]api.Op{{cons, set}, {set, atom}}, Picks: []int{9, 0, 1, 2, 3, 2, 0},
	})
}

func TestParseHeads(t *testing.T) {
	for head, c := range heads() {
		for _, text := range []string{head, strings.TrimSuffix(head, "\n")} {
			mustParse(t, text, empty(c))
			if s, _, _ := script.Parse(text); len(s.Programs) != c.Muts {
				t.Errorf("Parse(%q) has %d programs", text, len(s.Programs))
			}
		}
	}
}

// The last line's end may be missing.
func TestParseWithoutTheLastEnd(t *testing.T) {
	mustParse(t, leastHead+"op 0 set 0 5", does(least, 0, set))
	mustParse(t, leastHead+"pick 7", with(least, 7))
	mustParse(t, leastHead+"pick 7 8", with(least, 7, 8))
	mustParse(t, leastHead+"rounds 1", with(least, 0, 1))
	mustParse(t, leastHead+"rounds 0", with(least))
	for seed := range 50 {
		s := anyScript(seed)
		text, _ := script.Text(s)
		mustParse(t, text, s)
		mustParse(t, strings.TrimSuffix(text, "\n"), s)
	}
}

func TestParseRefusesTextsWithoutALine(t *testing.T) {
	mustRefuse(t, "", 1, api.ErrForm)
	mustRefuse(t, "\n", 1, api.ErrForm)
	mustRefuse(t, "\n\n\n", 1, api.ErrForm)
}

// noHeads are first lines that are no configuration's text.
func noHeads() []string {
	l := []string{
		"", " ", "cells", "cells 2", "cells 2 muts 1", "cells 2 muts 1 regs 1", "cells 2 muts 1 regs 1 globs", "cells 2 muts 1 regs 1 globs ",
		"muts 1 cells 2 regs 1 globs 0", "2 1 1 0", "op 0 set 0 5", "pick 0", "rounds 1", "run 1", "cells 2 muts 1 regs 1 globs 0 0",
		"cells 2 muts 1 regs 1 globs 0 op 0 set 0 5", "cells 2 muts 1 regs 1 globs 0\r", "cells 2 muts 1 regs 1 globs 0\x00", "\xef\xbb\xbfcells 2 muts 1 regs 1 globs 0",
		"cells 1 muts 1 regs 1 globs 0", "cells 4097 muts 1 regs 1 globs 0", "cells 2 muts 0 regs 1 globs 0", "cells 2 muts 64 regs 1 globs 0",
		"cells 2 muts 1 regs 0 globs 0", "cells 2 muts 1 regs 65 globs 0", "cells 2 muts 1 regs 1 globs 65", "cells 2 muts 1 regs 1 globs -1",
	}
	words := strings.Split("cells 2 muts 1 regs 1 globs 0", " ")
	for i := range words {
		for _, other := range []string{"", "x", words[i] + "x", "0" + words[i], "-" + words[i], "+" + words[i], "CELLS", " " + words[i], words[i] + " ", words[i] + "\t", "18446744073709551617"} {
			wrong := slices.Clone(words)
			wrong[i] = other
			l = append(l, strings.Join(wrong, " "))
		}
		l = append(l, strings.Join(slices.Delete(slices.Clone(words), i, i+1), " "))
		if i > 0 {
			l = append(l, strings.Join(words[:i], " ")+strings.Join(words[i:], " "))
		}
	}
	return l
}

// The first line is at fault, whatever is behind it.
func TestParseRefusesOtherHeads(t *testing.T) {
	for _, head := range noHeads() {
		for _, rest := range []string{"", "\n", "\n\n", "\npick 0\n", "\nrun 1\n", "\npick x", "\nrounds 999999\n", "\n" + leastHead, "\n" + leastHead + "pick 0\n"} {
			mustRefuse(t, head+rest, 1, api.ErrForm)
		}
	}
}

func TestParseRefusesEmptyLines(t *testing.T) {
	mustRefuse(t, leastHead+"\n", 2, api.ErrKind)
	mustRefuse(t, leastHead+"\n\n", 2, api.ErrKind)
	mustRefuse(t, leastHead+"\npick 0\n", 2, api.ErrKind)
	mustRefuse(t, leastHead+"pick 0\n\n", 3, api.ErrKind)
	mustRefuse(t, leastHead+"pick 0\n\npick 0\n", 3, api.ErrKind)
	mustRefuse(t, leastHead+"op 0 set 0 5\nrounds 1\n\n\n", 4, api.ErrKind)
	mustRefuse(t, "\n"+leastHead, 1, api.ErrForm)
}

// Only the byte a ends a line: others are parts of it.
func TestParseKnowsOneEnd(t *testing.T) {
	for _, other := range []string{"\r", "\v", "\f", "\x00", "\u0085", "\u2028", "\x8a", " ", "\t"} {
		mustRefuse(t, leastHead[:len(leastHead)-1]+other+"pick 0\n", 1, api.ErrForm)
		mustRefuse(t, leastHead[:len(leastHead)-1]+other+"\npick 0\n", 1, api.ErrForm)
		mustRefuse(t, leastHead+"pick 0"+other+"pick 0\n", 2, api.ErrForm)
		mustRefuse(t, leastHead+"pick 0"+other+"\npick 0\n", 2, api.ErrForm)
		mustRefuse(t, leastHead+"rounds 1"+other+"\n", 2, api.ErrForm)
		mustRefuse(t, leastHead+"op 0 set 0 5"+other+"\n", 2, api.ErrForm)
	}
}

func TestParseOps(t *testing.T) {
	for kind, count := range has() {
		if kind == 0 {
			continue
		}
		for _, n := range []int{0, 1, 7, 64, 999_999, 1_000_000, math.MaxInt} {
			x := api.Op{Kind: kind}
			text := op.Name(kind)
			for i := range count {
				*[]*int{&x.A, &x.B, &x.C}[i] = n - n/2*i
				text += " " + strconv.Itoa(n-n/2*i)
			}
			mustParse(t, leastHead+"op 0 "+text+"\n", does(least, 0, x))
			mustParse(t, mostHead+"op 62 "+text, does(most, 62, x))
		}
	}
}

// Operations need not be right for the configuration.
func TestParseOpsThatAreNotRight(t *testing.T) {
	mustParse(t, leastHead+"op 0 set 1 5\n", does(least, 0, api.Op{Kind: api.OpSet, A: 1, B: 5}))
	mustParse(t, leastHead+"op 0 get 0 0\n", does(least, 0, api.Op{Kind: api.OpGet}))
	mustParse(t, leastHead+"op 0 put 64 9\n", does(least, 0, api.Op{Kind: api.OpPut, A: 64, B: 9}))
	mustParse(t, leastHead+"op 0 cons 9223372036854775807 0 65\n", does(least, 0, api.Op{Kind: api.OpCons, A: math.MaxInt, C: 65}))
}

// Each op line is put behind the program of its mutator, wherever it stands.
func TestParseOrdersOpsByMutators(t *testing.T) {
	for seed := range 30 {
		draw := drawn(seed)
		want := empty(some)
		text := someHead
		for range 40 {
			m, x := draw(some.Muts), anyOp(draw)
			want.Programs[m] = append(want.Programs[m], x)
			text += "op " + strconv.Itoa(m) + " " + op.Text(x) + "\n"
			if draw(3) == 0 {
				want.Picks = append(want.Picks, m)
				text += "pick " + strconv.Itoa(m) + "\n"
			}
		}
		mustParse(t, text, want)
	}
}

// A mutator's number is below Muts.
func TestParseMutators(t *testing.T) {
	for head, c := range heads() {
		for m := range 130 {
			text := head + "op " + strconv.Itoa(m) + " set 0 5\n"
			if m < c.Muts {
				mustParse(t, text, does(c, m, set))
			} else {
				mustRefuse(t, text, 2, api.ErrForm)
			}
		}
		for _, m := range []string{"256", "999999", "1000000", "4294967296", "9223372036854775807"} {
			mustRefuse(t, head+"op "+m+" set 0 5", 2, api.ErrForm)
		}
	}
}

// Mutators that have no op line have an empty program.
func TestParseProgramsWithoutOps(t *testing.T) {
	for head, c := range heads() {
		for _, m := range []int{0, c.Muts / 2, c.Muts - 1} {
			text := head + "op " + strconv.Itoa(m) + " set 0 5\nrounds 1\n"
			s, n, e := script.Parse(text)
			if len(s.Programs) != c.Muts || n != 0 || e != api.OK {
				t.Fatalf("Parse(%q) has %d programs; %d, %d", text, len(s.Programs), n, e)
			}
			for i, l := range s.Programs {
				if (len(l) == 1) != (i == m) || len(l) > 1 {
					t.Errorf("Parse(%q): the program of %d is %v", text, i, l)
				}
			}
		}
	}
}

func TestParsePicks(t *testing.T) {
	for _, p := range []int{0, 1, 2, 3, 9, 10, 62, 63, 64, 65, 99, 100, 101, 65536, 99_999, 100_000, 999_998, 999_999} {
		mustParse(t, leastHead+"pick "+strconv.Itoa(p)+"\n", with(least, p))
		mustParse(t, leastHead+"pick 1 "+strconv.Itoa(p)+" 2\npick "+strconv.Itoa(p), with(least, 1, p, 2, p))
	}
	for p := range 2000 {
		mustParse(t, mostHead+"pick "+strconv.Itoa(p)+" 0\n", with(most, p, 0))
	}
}

func TestParseRounds(t *testing.T) {
	for head, c := range heads() {
		for _, n := range []int{0, 1, 2, 3, 9, 10, 11, 99, 100, 999, 1000, 1001, 1002, 5000} {
			want := with(c, 900)
			for range n {
				for p := 0; p <= c.Muts; p++ {
					want.Picks = append(want.Picks, p)
				}
			}
			want.Picks = append(want.Picks, 901)
			mustParse(t, head+"pick 900\nrounds "+strconv.Itoa(n)+"\npick 901\n", want)
		}
	}
	mustParse(t, pairHead+"rounds 0\n", with(pair))
	mustParse(t, pairHead+"rounds 1\nrounds 2\nrounds 0", with(pair, 0, 1, 2, 0, 1, 2, 0, 1, 2))
}

// noNumbers are words that aren't a number, or aren't one up to 999,999.
func noNumbers() []string {
	return []string{
		"", "00", "01", "007", "0999999", "000", "-0", "+0", "-1", "+1", "--1", "-", "+", "1-", "1+", "-999999",
		"x", "1x", "x1", "one", "#1", "?1", "1.", "1.0", ".1", "1e0", "1E3", "0x1", "0b1", "0o1", "1_0", "1,", "1,2", "999,999", "1;", "'1'",
		"\x00", "1\x00", "\x001", "\xff", "1\xff", "\t1", "1\t", "1\r", "\r1", "１", "٣", "1\u00a0", "\u20031",
		"1000000", "1000001", "9999999", "10000000", "4294967296", "4294967297", "9223372036854775807", "9223372036854775808", "9223372036854775809", "-9223372036854775808",
		// These come round to 0 or 1 in a word of so many bits.
		"18446744073709551616", "18446744073709551617", "340282366920938463463374607431768211457",
		strings.Repeat("0", 1<<12), strings.Repeat("0", 1<<12) + "1", strings.Repeat("1", 1<<12), strings.Repeat("9", 1<<16),
	}
}

func TestParseRefusesOtherNumbers(t *testing.T) {
	for _, n := range noNumbers() {
		mustRefuse(t, leastHead+"pick "+n, 2, api.ErrForm)
		mustRefuse(t, leastHead+"pick "+n+"\npick 0\n", 2, api.ErrForm)
		mustRefuse(t, leastHead+"pick "+n+" 0 1\n", 2, api.ErrForm)
		mustRefuse(t, leastHead+"pick 0 "+n+" 1\n", 2, api.ErrForm)
		mustRefuse(t, leastHead+"pick 0 1 "+n+"\n", 2, api.ErrForm)
		mustRefuse(t, leastHead+"rounds "+n, 2, api.ErrForm)
		mustRefuse(t, leastHead+"rounds "+n+"\n", 2, api.ErrForm)
		mustRefuse(t, leastHead+"op "+n+" set 0 5\n", 2, api.ErrForm)
		mustRefuse(t, mostHead+"op "+n+" atom 0", 2, api.ErrForm)
	}
}

// An operation's numbers are layer 8's: they are none with noughts ahead or a sign, but may be greater than 999,999.
func TestParseRefusesOtherOps(t *testing.T) {
	for _, text := range []string{
		"", " ", "0", "set", "set 0", "set 0 5 6", "set 0 5 ", " set 0 5", "set  0 5", "set 0  5", "set 00 5", "set 0 05", "set -1 5", "set 0 -5", "set +0 5", "set 0 x",
		"sets 0 5", "se 0 5", "SET 0 5", "set0 5", "set\t0 5", "set 0\t5", "cons 0 0", "cons 0 0 0 0", "atom", "atom 0 0", "atom 9223372036854775808", "nil 0", "op 0 set 0 5", "0 set 0 5",
		"pick 0", "rounds 1", "set 0 5\r", "set 0 5\x00", "\x00", "\xff",
	} {
		mustRefuse(t, leastHead+"op 0 "+text, 2, api.ErrForm)
		mustRefuse(t, leastHead+"op 0 "+text+"\n", 2, api.ErrForm)
	}
	for _, line := range []string{"op", "op ", "op 0", "op  0 set 0 5", "op 0  set 0 5", "op set 0 5", "op 0 0 set 0 5", "op  set 0 5", "op 0\tset 0 5"} {
		mustRefuse(t, leastHead+line, 2, api.ErrForm)
		mustRefuse(t, leastHead+line+"\nop 0 set 0 5\n", 2, api.ErrForm)
	}
}

func TestParseRefusesOtherPicksAndRounds(t *testing.T) {
	for _, line := range []string{
		"pick", "pick ", "pick  ", "pick  0", "pick 0 ", "pick 0  1", "pick 0 1 ", "pick 0\t1", "pick 0,1", "pick pick 0", "pick 0 pick 1", "pick set 0 5",
		"rounds", "rounds ", "rounds  1", "rounds 1 ", "rounds 1 2", "rounds 1 1", "rounds 0 0", "rounds rounds 1", "rounds 1\t", "rounds 1 pick 0",
	} {
		mustRefuse(t, leastHead+line, 2, api.ErrForm)
		mustRefuse(t, leastHead+"pick 0\n"+line+"\npick 1\n", 3, api.ErrForm)
	}
}

// The first word, up to the first space or the end, is one of three: whatever is behind it doesn't matter then.
func TestParseRefusesOtherWords(t *testing.T) {
	for _, word := range []string{
		"", "o", "p", "opp", "ops", "op0", "op\t", "op\r", "op\x00", "\x00op", "OP", "Op", "opop", "op,", "op:",
		"pic", "picks", "pick0", "PICK", "Pick", "pick\t0", "\tpick", "pick\r", "pick\x00", "pick,", "pickpick", "pick\u00a0",
		"round", "roundss", "rounds1", "ROUNDS", "Rounds", "rounds\t1", "rounds\r", "rounds:", "cells", "muts", "set", "cons", "atom", "run", "end", "none", "0", "1", "-1", "#", "\xff", "\u20281",
		strings.Repeat("op", 1<<16), strings.Repeat("\x00", 1<<16),
	} {
		for _, rest := range []string{"", " ", "  ", " 0", " 1", " 0 1 2", " 0 set 0 5", " x", " 1000000", " op 0 set 0 5", " pick 0"} {
			if word+rest != "" { // behind the last end there is no line
				mustRefuse(t, leastHead+word+rest, 2, api.ErrKind)
			}
			mustRefuse(t, leastHead+"pick 0\n"+word+rest+"\npick 0\n", 3, api.ErrKind)
		}
	}
	// Ahead of the word there is no space: the first word is empty.
	for _, line := range []string{" op 0 set 0 5", " pick 0", " rounds 1", "  pick 0"} {
		mustRefuse(t, leastHead+line+"\n", 2, api.ErrKind)
	}
	// The first line isn't told twice.
	mustRefuse(t, leastHead+leastHead, 2, api.ErrKind)
}

// The number and the error are those of the first wrong line, whatever is wrong behind it.
func TestParseTellsTheFirstWrongLine(t *testing.T) {
	wrong := []struct {
		line string
		e    api.Errno
	}{
		{"run 1", api.ErrKind}, {"", api.ErrKind}, {"pick", api.ErrForm}, {"pick x", api.ErrForm}, {"op 9 set 0 5", api.ErrForm}, {"rounds 1000000", api.ErrForm}, {"rounds 999999", api.ErrFull},
	}
	right := []string{"pick 0 1", "op 0 set 0 5", "rounds 2", "op 1 atom 4", "rounds 0"}
	for _, first := range wrong {
		for _, second := range wrong {
			for ahead := range 12 {
				text := pairHead
				for i := range ahead {
					text += right[i%len(right)] + "\n"
				}
				mustRefuse(t, text+first.line+"\n"+second.line+"\n", ahead+2, first.e)
				mustRefuse(t, text+first.line+"\n"+right[ahead%len(right)]+"\n"+second.line+"\n", ahead+2, first.e)
			}
		}
	}
	long := leastHead + strings.Repeat("pick 0\n", 100_000)
	mustRefuse(t, long+"run\npick\n", 100_002, api.ErrKind)
}

// many are so many picks of 0, in one line without its end.
func many(n int) string {
	return "pick" + strings.Repeat(" 0", n)
}

// upToTheMost are lines that bring as many picks as there may be, of two mutators.
func upToTheMost() map[string]string {
	const n = api.MaxPicks
	return map[string]string{
		"one line":          many(n) + "\n",
		"two lines":         many(n/2) + "\n" + many(n/2) + "\n",
		"one, and all":      "pick 0\n" + many(n-1) + "\n",
		"all, and one":      many(n-1) + "\npick 0\n",
		"line by line":      strings.Repeat("pick 0\n", n),
		"rounds, and one":   "rounds 349525\npick 0\n",
		"one, and rounds":   "pick 0\nrounds 349525\n",
		"picks, and rounds": many(n-3) + "\nrounds 1\n",
		"rounds, and picks": "rounds 1\n" + many(n-3) + "\n",
	}
}

func TestParseAsManyPicksAsThereMayBe(t *testing.T) {
	for name, lines := range upToTheMost() {
		t.Run(name, func(t *testing.T) {
			line := 2 + strings.Count(lines, "\n")
			for _, rest := range []string{"", "rounds 0\n", "op 1 set 0 5\n"} {
				s, n, e := script.Parse(pairHead + lines + rest)
				if len(s.Picks) != api.MaxPicks || n != 0 || e != api.OK {
					t.Fatalf("%d picks; %d, %d", len(s.Picks), n, e)
				}
			}
			for rest, want := range map[string]api.Errno{
				"pick 0": api.ErrFull, "pick 0 1\n": api.ErrFull, "rounds 1": api.ErrFull, "rounds 999999\n": api.ErrFull, "pick 0\nrun\n": api.ErrFull,
				"pick": api.ErrForm, "pick ": api.ErrForm, "pick x": api.ErrForm, "pick 0 x": api.ErrForm, "pick 0 1000000\n": api.ErrForm,
				"rounds 1000000": api.ErrForm, "rounds 1 1": api.ErrForm, "rounds": api.ErrForm, "op 2 set 0 5": api.ErrForm, "picks 0": api.ErrKind, "\n": api.ErrKind,
			} {
				mustRefuse(t, pairHead+lines+rest, line, want)
			}
		})
	}
}

func TestParseRefusesTooManyPicks(t *testing.T) {
	const n = api.MaxPicks
	for _, lines := range []string{many(n + 1), many(n+2) + "\n", many(2*n) + "\n", many(n+1) + "\nrun\n"} {
		mustRefuse(t, pairHead+lines, 2, api.ErrFull)
		mustRefuse(t, pairHead+"op 0 set 0 5\n"+lines, 3, api.ErrFull)
	}
	mustRefuse(t, pairHead+many(n-2)+"\nrounds 1\n", 3, api.ErrFull)
	mustRefuse(t, pairHead+many(n-2)+"\npick 1 2 3\n", 3, api.ErrFull)
	mustRefuse(t, pairHead+strings.Repeat("pick 0\n", n+1), n+2, api.ErrFull)
	mustRefuse(t, pairHead+"rounds 349525\npick 0 1\n", 3, api.ErrFull)
	mustRefuse(t, pairHead+"rounds 349525\nrounds 1\n", 3, api.ErrFull)
}

func TestParseRoundsUpToTheMost(t *testing.T) {
	for head, rounds := range map[string]int{leastHead: 524_288, pairHead: 349_525, someHead: 80_659, mostHead: 16_384} {
		s, n, e := script.Parse(head + "rounds " + strconv.Itoa(rounds) + "\n")
		if procs := s.Config.Muts + 1; len(s.Picks) != rounds*procs || n != 0 || e != api.OK {
			t.Errorf("%q: %d picks of %d rounds; %d, %d", head, len(s.Picks), rounds, n, e)
		} else if last := len(s.Picks) - 1; s.Picks[0] != 0 || s.Picks[last] != s.Config.Muts || s.Picks[last-procs] != s.Config.Muts {
			t.Errorf("%q: the picks go from %d to %d", head, s.Picks[0], s.Picks[last])
		}
		for _, more := range []int{rounds + 1, rounds + 2, 2 * rounds, 600_000, 999_999} {
			if more <= 999_999 {
				mustRefuse(t, head+"rounds "+strconv.Itoa(more), 2, api.ErrFull)
			}
		}
		mustRefuse(t, head+"rounds 1000000", 2, api.ErrForm)
	}
}

// ErrForm is told ahead of ErrFull, wherever in the line what is wrong stands.
func TestParseTellsTheFormAheadOfTooMany(t *testing.T) {
	const n = api.MaxPicks
	for _, line := range []string{
		many(n+1) + " x", many(n) + " x", many(n+1) + " ", many(n+1) + " 00", many(n+5) + " 1000000 0", many(n) + " x 0 0", "pick x" + strings.Repeat(" 0", n+1), many(n+1) + "  0",
	} {
		mustRefuse(t, leastHead+line, 2, api.ErrForm)
		mustRefuse(t, leastHead+line+"\npick 0\n", 2, api.ErrForm)
	}
	// In another line it stands behind.
	mustRefuse(t, leastHead+many(n+1)+"\npick x\n", 2, api.ErrFull)
	mustRefuse(t, leastHead+"pick x\n"+many(n+1)+"\n", 2, api.ErrForm)
}

// modelForms are the chapter's lines, but for an operation's text.
var (
	headForm = regexp.MustCompile(`^cells (0|[1-9][0-9]*) muts (0|[1-9][0-9]*) regs (0|[1-9][0-9]*) globs (0|[1-9][0-9]*)$`)
	lineForm = regexp.MustCompile(`(?s)^(op (0|[1-9][0-9]{0,5}) (.*)|pick( (0|[1-9][0-9]{0,5}))+|rounds (0|[1-9][0-9]{0,5}))$`)
)

// model is what the chapter says of a text, told another way.
func model(text string) (api.Script, int, api.Errno) {
	lines := strings.Split(strings.TrimSuffix(text, "\n"), "\n")
	f := headForm.FindStringSubmatch(lines[0])
	if f == nil {
		return api.Script{}, 1, api.ErrForm
	}
	var n [4]int
	for i, ends := range [4][2]int{{2, 4096}, {1, 63}, {1, 64}, {0, 64}} {
		k, err := strconv.Atoi(f[i+1])
		if err != nil || k < ends[0] || k > ends[1] {
			return api.Script{}, 1, api.ErrForm
		}
		n[i] = k
	}
	s := empty(api.Config{Cells: n[0], Muts: n[1], Regs: n[2], Globs: n[3]})
	for i, line := range lines[1:] {
		if e := modelLine(&s, line); e != api.OK {
			return api.Script{}, i + 2, e
		}
	}
	return s, 0, api.OK
}

func modelLine(s *api.Script, line string) api.Errno {
	words := strings.Split(line, " ")
	if !slices.Contains([]string{"op", "pick", "rounds"}, words[0]) {
		return api.ErrKind
	}
	f := lineForm.FindStringSubmatch(line)
	if f == nil {
		return api.ErrForm
	}
	var picks []int
	switch words[0] {
	case "op":
		m, _ := strconv.Atoi(f[2])
		x, e := op.Parse(f[3])
		if m >= s.Config.Muts || e != api.OK {
			return api.ErrForm
		}
		s.Programs[m] = append(s.Programs[m], x)
	case "pick":
		for _, w := range words[1:] {
			p, _ := strconv.Atoi(w)
			picks = append(picks, p)
		}
	case "rounds":
		n, _ := strconv.Atoi(words[1])
		// One too many is enough to know that there are.
		for i := 0; i < n*(s.Config.Muts+1) && i <= api.MaxPicks; i++ {
			picks = append(picks, i%(s.Config.Muts+1))
		}
	}
	if len(s.Picks)+len(picks) > api.MaxPicks {
		return api.ErrFull
	}
	s.Picks = append(s.Picks, picks...)
	return api.OK
}

func mustBeAsTheModel(t *testing.T, text string) {
	t.Helper()
	s, n, e := script.Parse(text)
	want, line, err := model(text)
	if !same(s, want) || n != line || e != err {
		t.Fatalf("Parse(%.200q) = %s; %d, %d, not %s; %d, %d", text, brief(s), n, e, brief(want), line, err)
	}
	if e == api.OK {
		mustReadAgain(t, s)
	}
}

// Wherever a byte of a text is taken away, put in or another one, it is read, or refused, as the chapter says.
func TestParseReadsEveryByte(t *testing.T) {
	text := pairHead + "op 1 cons 1 20 3\nrounds 2\nop 0 set 0 5\npick 10 2\n"
	for i := range len(text) {
		mustBeAsTheModel(t, text[:i])
		mustBeAsTheModel(t, text[i:])
		mustBeAsTheModel(t, text[:i]+text[i+1:])
		for b := range 256 {
			mustBeAsTheModel(t, text[:i]+string([]byte{byte(b)})+text[i:])
			mustBeAsTheModel(t, text[:i]+string([]byte{byte(b)})+text[i+1:])
		}
	}
}

// Texts put together out of parts of lines, right ones and wrong ones.
func TestParseOfPartsOfLines(t *testing.T) {
	parts := []string{
		"op", "pick", "rounds", " ", " ", " ", " ", "0", "1", "2", "63", "00", "999999", "1000000", "-1", "set 0 5", "cons 0 0 0", "atom 9", "set", "\n", "\n", "\r", "x", "\x00",
		" 0", " 1 2", "\nop 0 set 0 5", "\npick 1", "\nrounds 3", "\nop 1 atom 0", "pick 0\n", "op 1 eq 0 1\n", "rounds 1\n",
	}
	for seed := range 5000 {
		draw := drawn(seed)
		text := []string{leastHead, pairHead, someHead, mostHead}[draw(4)]
		for range draw(9) {
			text += parts[draw(len(parts))]
		}
		mustBeAsTheModel(t, text)
	}
}

// What Parse told stays apart from other answers, and its lists from one another.
func TestParseTellsNewMemory(t *testing.T) {
	const text = pairHead + "op 0 set 0 5\nop 0 cons 1 2 3\nop 1 atom 4\npick 7 8\nrounds 1\n"
	want := api.Script{Config: pair, Programs: [][]api.Op{{set, cons}, {atom}}, Picks: []int{7, 8, 0, 1, 2}}
	first, _, _ := script.Parse(text)
	second, _, _ := script.Parse(text)
	spoil(first)
	if !same(second, want) {
		t.Errorf("behind writing over another answer there is %s", brief(second))
	}
	mustParse(t, text, want)
	grow := append(second.Programs[0], atom, atom, atom)
	picks := append(second.Picks, 9, 9, 9)
	if !same(second, want) || len(grow) != 5 || len(picks) != 8 {
		t.Errorf("behind growing its lists there is %s", brief(second))
	}
	second.Programs[0] = append(second.Programs[0][:1], set, set, set)
	if !slices.Equal(second.Programs[1], want.Programs[1]) {
		t.Errorf("behind growing one program the other one is %v", second.Programs[1])
	}
}

// spoil writes over all that a script has, and what is behind its lists' lengths.
func spoil(s api.Script) {
	for _, l := range s.Programs {
		l = l[:cap(l)]
		for i := range l {
			l[i] = api.Op{Kind: 99, A: 99, B: 99, C: 99}
		}
	}
	for i := range s.Programs {
		s.Programs[i] = nil
	}
	l := s.Picks[:cap(s.Picks)]
	for i := range l {
		l[i] = 99
	}
}

// P21.2

func TestTextByHand(t *testing.T) {
	mustText(t, empty(least), leastHead)
	mustText(t, empty(most), mostHead)
	mustText(t, does(least, 0, set), leastHead+"op 0 set 0 5\n")
	mustText(t, with(least, 7), leastHead+"pick 7\n")
	mustText(t, with(least, 0, 1, 0, 1), leastHead+"pick 0 1 0 1\n")
	mustText(t, does(most, 62, set, atom), mostHead+"op 62 set 0 5\nop 62 atom 4\n")
	mustText(t, api.Script{Config: pair, Programs: [][]api.Op{{cons, set}, {set, atom}}, Picks: []int{9, 0, 999_999, 1}},
		pairHead+"op 0 cons 1 2 3\nop 0 set 0 5\nop 1 set 0 5\nop 1 atom 4\npick 9 0 999999 1\n")
	mustText(t, api.Script{Config: pair, Programs: [][]api.Op{{}, {set}}, Picks: []int{}}, pairHead+"op 1 set 0 5\n")
}

// What isn't right for the configuration has a text all the same.
func TestTextOfOpsThatAreNotRight(t *testing.T) {
	mustText(t, does(least, 0, api.Op{Kind: api.OpPut, A: 64, B: math.MaxInt}), leastHead+"op 0 put 64 9223372036854775807\n")
}

func TestTextOfEachKind(t *testing.T) {
	for kind, count := range has() {
		if kind == 0 {
			continue
		}
		x := api.Op{Kind: kind, A: 10, B: 20, C: 30}
		text := "op 1 " + op.Name(kind)
		for i := range count {
			text += " " + strconv.Itoa(10*(i+1))
		}
		mustText(t, does(pair, 1, x), pairHead+text+"\n")
	}
}

// An operation's numbers that its kind hasn't play no part in the text.
func TestTextOfNumbersThatAKindHasNot(t *testing.T) {
	for _, n := range []int{math.MinInt, -1, 0, 1, 7, math.MaxInt} {
		mustText(t, does(least, 0, api.Op{Kind: api.OpSet, B: 5, C: n}), leastHead+"op 0 set 0 5\n")
		mustText(t, does(least, 0, api.Op{Kind: api.OpPut, A: 3, B: 5, C: n}), leastHead+"op 0 put 3 5\n")
		mustText(t, does(least, 0, api.Op{Kind: api.OpAtom, A: 4, B: n, C: -n}), leastHead+"op 0 atom 4\n")
	}
}

func TestTextOfWrongConfigurations(t *testing.T) {
	for _, c := range wrongConfigs() {
		mustHaveNoText(t, api.Script{Config: c})
		mustHaveNoText(t, api.Script{Config: c, Programs: make([][]api.Op, 1), Picks: []int{0}})
		if c.Muts > 0 && c.Muts < 100 {
			mustHaveNoText(t, empty(c))
			mustHaveNoText(t, does(c, 0, set))
		}
	}
	mustHaveNoText(t, api.Script{})
}

// There are as many programs as mutators.
func TestTextOfAnotherCountOfPrograms(t *testing.T) {
	for _, c := range heads() {
		for n := range c.Muts + 3 {
			for _, programs := range [][][]api.Op{make([][]api.Op, n), slices.Repeat([][]api.Op{{set}}, n)} {
				s := api.Script{Config: c, Programs: programs, Picks: []int{0}}
				if _, ok := script.Text(s); ok != (n == c.Muts) {
					t.Errorf("Text of %d programs of %d mutators: %v", n, c.Muts, ok)
				}
				if n != c.Muts {
					mustHaveNoText(t, s)
				}
			}
		}
		mustHaveNoText(t, api.Script{Config: c})
	}
}

// textless are operations that have no text.
func textless() []api.Op {
	l := []api.Op{{}, {Kind: -1}, {Kind: 12}, {Kind: 99, A: 1, B: 2, C: 3}, {Kind: math.MinInt}, {Kind: math.MaxInt}, {Kind: 1<<32 + 1}}
	for kind, count := range has() {
		for i := range count {
			for _, n := range []int{-1, -2, math.MinInt} {
				x := api.Op{Kind: kind, A: 1, B: 2, C: 3}
				*[]*int{&x.A, &x.B, &x.C}[i] = n
				l = append(l, x)
			}
		}
	}
	return l
}

func TestTextOfOperationsWithoutOne(t *testing.T) {
	for _, x := range textless() {
		mustHaveNoText(t, does(least, 0, x))
		for m := range some.Muts {
			for _, l := range [][]api.Op{{x}, {x, set}, {set, x}, {set, x, set}} {
				s := does(some, m, l...)
				s.Picks = []int{0, 1}
				mustHaveNoText(t, s)
			}
		}
	}
}

func TestTextOfPicks(t *testing.T) {
	for _, p := range []int{0, 1, 9, 10, 64, 99_999, 100_000, 999_998, 999_999} {
		mustText(t, with(least, p), leastHead+"pick "+strconv.Itoa(p)+"\n")
	}
	for _, p := range []int{-1, -2, -999_999, 1_000_000, 1_000_001, 1 << 32, 1<<32 + 1, math.MinInt, math.MinInt + 1, math.MaxInt - 1, math.MaxInt} {
		for _, l := range [][]int{{p}, {p, 0}, {0, p}, {0, p, 1}, {p, p}} {
			mustHaveNoText(t, with(least, l...))
			mustHaveNoText(t, with(most, l...))
		}
	}
}

func TestTextOfAsManyPicksAsThereMayBe(t *testing.T) {
	s := with(least, make([]int, api.MaxPicks)...)
	mustText(t, s, leastHead+many(api.MaxPicks)+"\n")
	for i := range s.Picks {
		s.Picks[i] = i % 1_000_000
	}
	mustReadAgain(t, s)
	mustHaveNoText(t, with(least, make([]int, api.MaxPicks+1)...))
	mustHaveNoText(t, with(least, make([]int, 2*api.MaxPicks)...))
}

// Programs have as many operations as one likes.
func TestTextOfLongPrograms(t *testing.T) {
	const n = 200_000
	s := does(pair, 1, slices.Repeat([]api.Op{set, cons}, n/2)...)
	mustText(t, s, pairHead+strings.Repeat("op 1 set 0 5\nop 1 cons 1 2 3\n", n/2))
	mustReadAgain(t, s)
}

// P21.3: Parse of what Text tells is the same script.

func TestTextReadAgain(t *testing.T) {
	for seed := range 2000 {
		mustReadAgain(t, anyScript(seed))
	}
}

// The scripts that Parse tells have texts, which are their own when they are told so already.
func TestTextOfWhatParseTold(t *testing.T) {
	for _, lines := range []string{
		"", "op 0 set 0 5", "rounds 3\n", "rounds 0\n", "pick 1\npick 2 3\nrounds 1\nop 1 atom 4\nop 0 cons 1 2 3", "op 1 get 9223372036854775807 0\npick 999999\n", "rounds 1001\n", "rounds 300000",
	} {
		s, _, e := script.Parse(pairHead + lines)
		if e != api.OK {
			t.Fatalf("Parse of %q tells %d", lines, e)
		}
		mustReadAgain(t, s)
	}
	for seed := range 200 {
		s := anyScript(seed)
		text, _ := script.Text(s)
		s, _, _ = script.Parse(text)
		mustText(t, s, text)
	}
}

// P21.3: Rounds

func TestRounds(t *testing.T) {
	for _, c := range heads() {
		for _, r := range []struct{ n, want int }{
			{math.MinInt, 0}, {math.MinInt + 1, 0}, {-1 << 32, 0}, {-1000, 0}, {-1, 0}, {0, 0}, {1, 1}, {2, 2}, {3, 3}, {10, 10}, {999, 999}, {1000, 1000},
			{1001, 1000}, {1002, 1000}, {999_999, 1000}, {1_000_000, 1000}, {1 << 32, 1000}, {1<<32 + 1, 1000}, {1<<62 + 1, 1000}, {math.MaxInt - 1, 1000}, {math.MaxInt, 1000},
		} {
			var want []int
			for range r.want {
				for p := 0; p <= c.Muts; p++ {
					want = append(want, p)
				}
			}
			if got := script.Rounds(c, r.n); !slices.Equal(got, want) {
				t.Errorf("Rounds(%v, %d) are %d picks, not %d", c, r.n, len(got), len(want))
			}
		}
	}
	if got := script.Rounds(pair, 2); !slices.Equal(got, []int{0, 1, 2, 0, 1, 2}) {
		t.Errorf("Rounds of 2 are %v", got)
	}
}

func TestRoundsOfWrongConfigurations(t *testing.T) {
	for _, c := range wrongConfigs() {
		for _, n := range []int{math.MinInt, -1, 0, 1, 2, 1000, 1001, math.MaxInt} {
			if got := script.Rounds(c, n); len(got) != 0 {
				t.Errorf("Rounds(%v, %d) are %d picks", c, n, len(got))
			}
		}
	}
}

// They are what a line of rounds brings.
func TestRoundsAreThoseOfALine(t *testing.T) {
	for head, c := range heads() {
		for _, n := range []int{0, 1, 2, 17, 1000} {
			mustParse(t, head+"rounds "+strconv.Itoa(n), with(c, script.Rounds(c, n)...))
		}
	}
}

func TestRoundsTellsNewMemory(t *testing.T) {
	first, second := script.Rounds(pair, 2), script.Rounds(pair, 2)
	for i := range first {
		first[i] = 99
	}
	for _, got := range [][]int{second, script.Rounds(pair, 2)} {
		if !slices.Equal(got, []int{0, 1, 2, 0, 1, 2}) {
			t.Errorf("behind writing over an answer there are %v", got)
		}
	}
}

// P21.3: Same

func mustBeSame(t *testing.T, a, b api.Script, want bool) {
	t.Helper()
	if script.Same(a, b) != want || script.Same(b, a) != want {
		t.Errorf("%s and %s: Same tells %v, %v, not %v", brief(a), brief(b), script.Same(a, b), script.Same(b, a), want)
	}
}

// full is a script that has several of all, and two different things of each.
func full() api.Script {
	return api.Script{Config: pair, Programs: [][]api.Op{{set, cons}, {atom, set, atom}}, Picks: []int{0, 2, 1, 7}}
}

func TestSame(t *testing.T) {
	mustBeSame(t, api.Script{}, api.Script{}, true)
	mustBeSame(t, full(), full(), true)
	for seed := range 200 {
		s := anyScript(seed)
		mustBeSame(t, s, s, true)
		mustBeSame(t, s, deep(s), true)
		mustBeSame(t, s, anyScript(seed+1), same(s, anyScript(seed+1)))
	}
	// What isn't right can be the same, too.
	odd := api.Script{Config: api.Config{Cells: -1}, Programs: [][]api.Op{{{Kind: 99, A: -1}}}, Picks: []int{-1, math.MinInt}}
	mustBeSame(t, odd, deep(odd), true)
}

// changes are what makes a script another one, in one part alone.
func changes() map[string]func(s *api.Script) {
	return map[string]func(s *api.Script){
		"Cells": func(s *api.Script) { s.Config.Cells++ }, "Muts": func(s *api.Script) { s.Config.Muts++ }, "Regs": func(s *api.Script) { s.Config.Regs-- }, "Globs": func(s *api.Script) { s.Config.Globs = 0 },
		"no configuration": func(s *api.Script) { s.Config = api.Config{} },

		"first kind": func(s *api.Script) { s.Programs[0][0].Kind = api.OpMove }, "last kind": func(s *api.Script) { s.Programs[1][2].Kind = api.OpSet },
		"a first A": func(s *api.Script) { s.Programs[0][0].A++ }, "a first B": func(s *api.Script) { s.Programs[0][0].B++ }, "a first C": func(s *api.Script) { s.Programs[0][0].C++ },
		"an A": func(s *api.Script) { s.Programs[0][1].A++ }, "a B": func(s *api.Script) { s.Programs[0][1].B++ }, "a C": func(s *api.Script) { s.Programs[0][1].C++ },
		"a last A": func(s *api.Script) { s.Programs[1][2].A = -1 }, "a last B": func(s *api.Script) { s.Programs[1][2].B = math.MinInt }, "a last C": func(s *api.Script) { s.Programs[1][2].C = math.MaxInt },

		"one operation more": func(s *api.Script) { s.Programs[0] = append(s.Programs[0], set) }, "one less": func(s *api.Script) { s.Programs[1] = s.Programs[1][:2] },
		"one behind the other": func(s *api.Script) { slices.Reverse(s.Programs[0]) }, "an empty program": func(s *api.Script) { s.Programs[0] = nil },
		"other mutators": func(s *api.Script) { slices.Reverse(s.Programs) }, "an operation moved": func(s *api.Script) {
			s.Programs = [][]api.Op{{set}, {cons, atom, set, atom}}
		},

		"one program more": func(s *api.Script) { s.Programs = append(s.Programs, nil) }, "one program less": func(s *api.Script) { s.Programs = s.Programs[:1] },
		"an empty one ahead": func(s *api.Script) { s.Programs = slices.Insert(s.Programs, 0, nil) }, "no programs": func(s *api.Script) { s.Programs = nil },

		"first pick": func(s *api.Script) { s.Picks[0]++ }, "a pick": func(s *api.Script) { s.Picks[2] = -1 }, "last pick": func(s *api.Script) { s.Picks[3] = math.MaxInt },
		"one pick more": func(s *api.Script) { s.Picks = append(s.Picks, 0) }, "one pick less": func(s *api.Script) { s.Picks = s.Picks[:3] }, "without the first": func(s *api.Script) { s.Picks = s.Picks[1:] },
		"no picks": func(s *api.Script) { s.Picks = nil }, "picks from behind": func(s *api.Script) { slices.Reverse(s.Picks) },
	}
}

func TestSameOfScriptsThatDifferInOnePart(t *testing.T) {
	for name, change := range changes() {
		t.Run(name, func(t *testing.T) {
			s := full()
			change(&s)
			mustBeSame(t, full(), s, false)
			mustBeSame(t, s, deep(s), true)
		})
	}
	mustBeSame(t, full(), api.Script{}, false)
}

// A list that is nil and one without elements are the same thing.
func TestSameOfNilAndEmptyParts(t *testing.T) {
	mustBeSame(t, api.Script{}, api.Script{Programs: [][]api.Op{}, Picks: []int{}}, true)
	mustBeSame(t, api.Script{Config: pair, Programs: [][]api.Op{nil, {set}}}, api.Script{Config: pair, Programs: [][]api.Op{{}, {set}}, Picks: []int{}}, true)
	mustBeSame(t, api.Script{Config: pair, Programs: [][]api.Op{nil, nil}}, api.Script{Config: pair, Programs: [][]api.Op{{}, {}}}, true)
	mustBeSame(t, api.Script{Config: pair, Programs: [][]api.Op{nil, nil}}, api.Script{Config: pair}, false)
	mustBeSame(t, api.Script{Config: pair, Programs: [][]api.Op{{}}}, api.Script{Config: pair, Programs: [][]api.Op{}}, false)
}

// R4

// behind is a list of the same things, with another one behind its length.
func behind[T any](l []T, other T) []T {
	return append(slices.Clone(l), other)[:len(l)]
}

// roomy is a script with these things behind its lists' lengths.
func roomy(x api.Op, pick int) api.Script {
	programs := [][]api.Op{behind([]api.Op{set, cons}, x), behind([]api.Op{atom}, x)}
	return api.Script{Config: pair, Programs: behind(programs, []api.Op{x, x}), Picks: behind([]int{0, 1}, pick)}
}

// whole is a roomy script with what lies behind its lists' lengths.
func whole(s api.Script) api.Script {
	n := len(s.Programs)
	w := api.Script{Config: s.Config, Picks: s.Picks[:len(s.Picks)+1]}
	for _, l := range s.Programs {
		w.Programs = append(w.Programs, l[:len(l)+1])
	}
	w.Programs = append(w.Programs, s.Programs[:n+1][n])
	return w
}

// What is handed in is not changed, and what lies behind a list's length is neither read nor written.
func TestNothingIsWrittenOver(t *testing.T) {
	bad := api.Op{Kind: 99}
	a, b, odd := roomy(bad, -1), roomy(set, 5), does(least, 0, atom, bad)
	for range 2 {
		mustText(t, a, pairHead+"op 0 set 0 5\nop 0 cons 1 2 3\nop 1 atom 4\npick 0 1\n")
		mustText(t, b, pairHead+"op 0 set 0 5\nop 0 cons 1 2 3\nop 1 atom 4\npick 0 1\n")
		mustHaveNoText(t, odd)
		mustBeSame(t, a, b, true)
		mustBeSame(t, a, odd, false)
	}
	if !same(whole(a), whole(roomy(bad, -1))) || !same(whole(b), whole(roomy(set, 5))) || !same(odd, does(least, 0, atom, bad)) {
		t.Errorf("behind the calls there are %s, %s and %s", brief(whole(a)), brief(whole(b)), brief(odd))
	}
}

// A script is told by what it is when it is asked, and an answer is kept as it was.
func TestTextKeepsNothing(t *testing.T) {
	s := full()
	text, _ := script.Text(s)
	kept := strings.Clone(text)
	spoil(s)
	if text != kept {
		t.Errorf("behind writing over the script its text is %q", text)
	}
	mustText(t, full(), kept)
}

// P1

func FuzzParse(f *testing.F) {
	for head := range heads() {
		f.Add(head)
		f.Add(head + "op 0 cons 0 0 0\nrounds 2\npick 1 2 3\n")
	}
	for _, head := range noHeads() {
		f.Add(head)
	}
	for _, n := range noNumbers() {
		f.Add(leastHead + "pick " + n + "\nrounds " + n + "\nop " + n + " set 0 " + n)
	}
	f.Add(mostHead + "rounds 999999")
	f.Add(leastHead + "\xff\x00\n\n")
	f.Fuzz(func(t *testing.T, text string) {
		mustBeAsTheModel(t, text)
	})
}

func FuzzScripts(f *testing.F) {
	f.Add(2, 1, 1, 0, 1, 0, 0, 5, 0, 0, 1, 1)
	f.Add(2, 2, 1, 1, 2, 1, 3, 1, 2, 3, 999_999, 2)
	f.Add(4096, 63, 64, 64, 63, 62, 11, math.MaxInt, -1, -1, 0, 1000)
	f.Add(0, 0, 0, 0, 0, 0, 0, 0, 0, 0, -1, -1)
	f.Add(math.MaxInt, math.MinInt, 1, 0, 3, 3, 99, -1, 0, 0, math.MinInt, math.MaxInt)
	f.Fuzz(func(t *testing.T, cells, muts, regs, globs, count, m, kind, a, b, c, pick, n int) {
		x := api.Op{Kind: kind, A: a, B: b, C: c}
		s := api.Script{Config: api.Config{Cells: cells, Muts: muts, Regs: regs, Globs: globs}, Programs: make([][]api.Op, uint(count)%70), Picks: []int{pick}}
		if len(s.Programs) > 0 {
			s.Programs[uint(m)%uint(len(s.Programs))] = []api.Op{x}
		}
		right := cells >= 2 && cells <= 4096 && muts >= 1 && muts <= 63 && regs >= 1 && regs <= 64 && globs >= 0 && globs <= 64
		want := right && len(s.Programs) == muts && op.Text(x) != "" && pick >= 0 && pick <= 999_999
		text, ok := script.Text(s)
		if ok != want || (text != "") != want {
			t.Fatalf("Text(%s) = %q, %v", brief(s), text, ok)
		}
		if ok {
			mustBeAsTheModel(t, text)
		}
		mustBeSame(t, s, deep(s), true)
		rounds := 0
		if right {
			rounds = max(0, min(n, 1000)) * (muts + 1)
		}
		if l := script.Rounds(s.Config, n); len(l) != rounds {
			t.Fatalf("Rounds(%v, %d) are %d picks, not %d", s.Config, n, len(l), rounds)
		}
	})
}

// A script as a text.
func ExampleText() {
	s, n, e := script.Parse("cells 2 muts 1 regs 1 globs 0\nrounds 2\nop 0 cons 0 0 0")
	fmt.Println(s.Programs, s.Picks, n, e)
	text, ok := script.Text(s)
	fmt.Print(text)
	fmt.Println(ok)
	// Output:
	// [[{3 0 0 0}]] [0 1 0 1] 0 0
	// cells 2 muts 1 regs 1 globs 0
	// op 0 cons 0 0 0
	// pick 0 1 0 1
	// true
}
