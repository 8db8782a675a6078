package op_test

import (
	"fmt"
	"math"
	"slices"
	"strconv"
	"strings"
	"testing"

	"mudlark/api"
	"mudlark/op"
)

var (
	least = api.Config{Cells: 2, Muts: 1, Regs: 1, Globs: 0}
	some  = api.Config{Cells: 3, Muts: 2, Regs: 5, Globs: 3}
	bare  = api.Config{Cells: 3, Muts: 2, Regs: 5, Globs: 0}
	most  = api.Config{Cells: 4096, Muts: 63, Regs: 64, Globs: 64}
)

func right() []api.Config {
	return []api.Config{least, some, bare, most, {Cells: 2, Muts: 1, Regs: 1, Globs: 64}, {Cells: 2, Muts: 1, Regs: 64, Globs: 1}}
}

// wrong are configurations that aren't right: the zero one, each number at fault by itself, and all of them.
func wrong() []api.Config {
	l := []api.Config{{}}
	for _, c := range []api.Config{least, some, most} {
		for _, n := range []int{math.MinInt, math.MinInt + 2, -1 << 32, -2, -1, 5000, 1 << 32, 1<<32 + 2, math.MaxInt - 1, math.MaxInt} {
			l = append(l, each(c, n, n, n, n)...)
			l = append(l, api.Config{Cells: n, Muts: n, Regs: n, Globs: n})
		}
		l = append(l, each(c, 1, 0, 0, -1)...)
		l = append(l, each(c, 4097, 64, 65, 65)...)
	}
	return l
}

// each are four configurations: in each of them one number of c is another one.
func each(c api.Config, cells, muts, regs, globs int) []api.Config {
	return []api.Config{
		{Cells: cells, Muts: c.Muts, Regs: c.Regs, Globs: c.Globs}, {Cells: c.Cells, Muts: muts, Regs: c.Regs, Globs: c.Globs},
		{Cells: c.Cells, Muts: c.Muts, Regs: regs, Globs: c.Globs}, {Cells: c.Cells, Muts: c.Muts, Regs: c.Regs, Globs: globs},
	}
}

// kind is a row of the chapter's table.
type kind struct {
	number int
	word   string
	has    string // r, g or k of each number, A ahead
}

func kinds() []kind {
	return []kind{
		{1, "set", "rk"}, {2, "move", "rr"}, {3, "cons", "rrr"}, {4, "car", "rr"}, {5, "cdr", "rr"}, {6, "rplaca", "rr"},
		{7, "rplacd", "rr"}, {8, "get", "rg"}, {9, "put", "gr"}, {10, "eq", "rr"}, {11, "atom", "r"},
	}
}

// noKinds are numbers that no kind has, some with a kind in their lower bits.
func noKinds() []int {
	return []int{
		0, -1, -2, -3, -11, -12, 12, 13, 255, 256, 257, 1<<8 + 3, 1<<16 + 1, 1<<32 + 1, 1<<32 + 11, 1<<62 + 3,
		math.MinInt, math.MinInt + 1, math.MinInt + 11, math.MinInt32, math.MaxInt32, math.MaxInt - 1, math.MaxInt,
	}
}

// ends are numbers of all sizes, the ends of int too.
func ends() []int {
	return []int{
		math.MinInt, math.MinInt + 1, -1 << 32, -65, -64, -2, -1, 0, 1, 2, 9, 10, 63, 64, 65, 100, 4096,
		1<<32 - 1, 1 << 32, 1<<32 + 1, math.MaxInt - 1, math.MaxInt,
	}
}

// of is an operation with these numbers.
func of(kind int, n [3]int) api.Op {
	return api.Op{Kind: kind, A: n[0], B: n[1], C: n[2]}
}

// lastOf is the last number that a sort of number may have; -1, if there is none.
func lastOf(c api.Config, sort byte) int {
	switch sort {
	case 'r':
		return c.Regs - 1
	case 'g':
		return c.Globs - 1
	}
	return math.MaxInt
}

// isRight tells whether each number that a kind has is inside.
func isRight(c api.Config, k kind, n [3]int) bool {
	for i := range len(k.has) {
		if n[i] < 0 || n[i] > lastOf(c, k.has[i]) {
			return false
		}
	}
	return true
}

// join is a kind's word and its numbers, with one space between two.
func join(word string, numbers ...string) string {
	return strings.Join(append([]string{word}, numbers...), " ")
}

func digits(l ...int) []string {
	var s []string
	for _, n := range l {
		s = append(s, strconv.Itoa(n))
	}
	return s
}

// textOf is an operation's text, as the chapter says it.
func textOf(k kind, n [3]int) string {
	has := n[:len(k.has)]
	if slices.Min(has) < 0 {
		return ""
	}
	return join(k.word, digits(has...)...)
}

// regsOf are an operation's registers, as the chapter says it.
func regsOf(k kind, n [3]int) []int {
	var l []int
	for i := range len(k.has) {
		if k.has[i] == 'r' {
			l = append(l, n[i])
		}
	}
	return l
}

// cut are the numbers, with 0 for those that a kind hasn't.
func cut(k kind, n [3]int) [3]int {
	clear(n[len(k.has):])
	return n
}

// triples are three numbers, each one of these.
func triples(l ...int) [][3]int {
	var all [][3]int
	for _, a := range l {
		for _, b := range l {
			for _, c := range l {
				all = append(all, [3]int{a, b, c})
			}
		}
	}
	return all
}

func mustCheck(t *testing.T, c api.Config, x api.Op, want api.Errno) {
	t.Helper()
	if e := op.Check(c, x); e != want {
		t.Errorf("Check(%+v, %+v) = %d, not %d", c, x, e, want)
	}
}

func mustText(t *testing.T, x api.Op, want string) {
	t.Helper()
	if s := op.Text(x); s != want {
		t.Errorf("Text(%+v) = %q, not %q", x, s, want)
	}
}

func mustParse(t *testing.T, s string, want api.Op) {
	t.Helper()
	if x, e := op.Parse(s); x != want || e != api.OK {
		t.Errorf("Parse(%q) = %+v, %d, not %+v", s, x, e, want)
	}
}

func mustRefuse(t *testing.T, s string) {
	t.Helper()
	if x, e := op.Parse(s); x != (api.Op{}) || e != api.ErrForm {
		t.Errorf("Parse(%.80q) = %+v, %d", s, x, e)
	}
}

func mustRegs(t *testing.T, x api.Op, want ...int) {
	t.Helper()
	regs := op.Regs(x)
	if regs == nil {
		t.Fatalf("Regs(%+v) is nil", x)
	}
	for range 2 {
		if l := slices.Collect(regs); !slices.Equal(l, want) {
			t.Errorf("Regs(%+v) = %v, not %v", x, l, want)
		}
	}
}

// The chapter's example.
func TestExample(t *testing.T) {
	x := api.Op{Kind: api.OpCons, A: 0, B: 1, C: 2}
	mustText(t, x, "cons 0 1 2")
	mustParse(t, "cons 0 1 2", x)
}

// P8.1

func TestCheckByHand(t *testing.T) {
	for _, x := range []struct {
		op   api.Op
		want api.Errno
	}{
		{api.Op{Kind: api.OpSet, A: 4, B: math.MaxInt}, api.OK}, {api.Op{Kind: api.OpSet, A: 5}, api.ErrRange}, {api.Op{Kind: api.OpSet, B: -1}, api.ErrRange},
		{api.Op{Kind: api.OpMove, A: 4, B: 4}, api.OK}, {api.Op{Kind: api.OpMove, A: 5}, api.ErrRange}, {api.Op{Kind: api.OpMove, B: 5}, api.ErrRange},
		{api.Op{Kind: api.OpCons, A: 4, B: 4, C: 4}, api.OK}, {api.Op{Kind: api.OpCons, A: 5}, api.ErrRange},
		{api.Op{Kind: api.OpCons, B: 5}, api.ErrRange}, {api.Op{Kind: api.OpCons, C: 5}, api.ErrRange},
		{api.Op{Kind: api.OpCar, A: 4, B: 4}, api.OK}, {api.Op{Kind: api.OpCar, B: 5}, api.ErrRange},
		{api.Op{Kind: api.OpCdr, A: 4, B: 4}, api.OK}, {api.Op{Kind: api.OpCdr, A: 5}, api.ErrRange},
		{api.Op{Kind: api.OpRplaca, A: 4, B: 4}, api.OK}, {api.Op{Kind: api.OpRplaca, B: 5}, api.ErrRange},
		{api.Op{Kind: api.OpRplacd, A: 4, B: 4}, api.OK}, {api.Op{Kind: api.OpRplacd, A: -1}, api.ErrRange},
		{api.Op{Kind: api.OpGet, A: 4, B: 2}, api.OK}, {api.Op{Kind: api.OpGet, A: 2, B: 4}, api.ErrRange}, {api.Op{Kind: api.OpGet, B: 3}, api.ErrRange},
		{api.Op{Kind: api.OpPut, A: 2, B: 4}, api.OK}, {api.Op{Kind: api.OpPut, A: 4, B: 2}, api.ErrRange}, {api.Op{Kind: api.OpPut, A: 3}, api.ErrRange},
		{api.Op{Kind: api.OpEq, A: 4, B: 4}, api.OK}, {api.Op{Kind: api.OpEq, A: 5}, api.ErrRange},
		{api.Op{Kind: api.OpAtom, A: 4}, api.OK}, {api.Op{Kind: api.OpAtom, A: 5}, api.ErrRange},
	} {
		mustCheck(t, some, x.op, x.want)
	}
}

// Each number that a kind has, outside by itself and just inside; the others are 0, or the last that they may be.
func TestCheckEachNumber(t *testing.T) {
	for _, c := range right() {
		for _, k := range kinds() {
			for i := range len(k.has) {
				checkNumber(t, c, k, i)
			}
		}
	}
}

func checkNumber(t *testing.T, c api.Config, k kind, i int) {
	t.Helper()
	var lasts [3]int
	for j := range len(k.has) {
		lasts[j] = lastOf(c, k.has[j])
	}
	last := lasts[i]
	tried := slices.Concat(ends(), []int{last - 1, last})
	if last < math.MaxInt {
		tried = append(tried, last+1, last+2, 1<<32+last, -last-1)
	}
	for _, others := range [][3]int{{}, lasts} {
		for _, n := range tried {
			numbers := others
			numbers[i] = n
			want := api.OK
			if !isRight(c, k, numbers) {
				want = api.ErrRange
			}
			mustCheck(t, c, of(k.number, numbers), want)
			if (n < 0 || n > last) && want == api.OK {
				t.Fatalf("%+v %s: %d isn't inside", c, k.word, n)
			}
		}
	}
}

func TestCheckWhereThereAreNoGlobals(t *testing.T) {
	for _, c := range []api.Config{least, bare} {
		for _, n := range ends() {
			mustCheck(t, c, api.Op{Kind: api.OpGet, A: 0, B: n}, api.ErrRange)
			mustCheck(t, c, api.Op{Kind: api.OpPut, A: n, B: 0}, api.ErrRange)
		}
		mustCheck(t, c, api.Op{Kind: api.OpGet}, api.ErrRange)
		mustCheck(t, c, api.Op{Kind: api.OpPut}, api.ErrRange)
		mustCheck(t, c, api.Op{Kind: api.OpMove}, api.OK)
	}
}

func TestCheckOfKindsThatThereAreNot(t *testing.T) {
	for _, c := range right() {
		for _, n := range noKinds() {
			for _, numbers := range triples(math.MinInt, -1, 0, 64, math.MaxInt) {
				mustCheck(t, c, of(n, numbers), api.ErrKind)
			}
		}
	}
}

// A configuration that isn't right is told ahead of all else.
func TestCheckOfWrongConfigurations(t *testing.T) {
	for _, c := range wrong() {
		for _, k := range kinds() {
			for _, numbers := range triples(-1, 0, 70) {
				mustCheck(t, c, of(k.number, numbers), api.ErrArg)
			}
		}
		for _, n := range noKinds() {
			mustCheck(t, c, of(n, [3]int{}), api.ErrArg)
			mustCheck(t, c, of(n, [3]int{-1, 70, math.MaxInt}), api.ErrArg)
		}
	}
}

func TestCheckOfAllNumbers(t *testing.T) {
	for _, c := range right() {
		for _, k := range kinds() {
			for _, n := range triples(ends()...) {
				want := api.OK
				if !isRight(c, k, n) {
					want = api.ErrRange
				}
				mustCheck(t, c, of(k.number, n), want)
			}
		}
	}
}

func TestName(t *testing.T) {
	for n, want := range map[int]string{
		api.OpSet: "set", api.OpMove: "move", api.OpCons: "cons", api.OpCar: "car", api.OpCdr: "cdr", api.OpRplaca: "rplaca",
		api.OpRplacd: "rplacd", api.OpGet: "get", api.OpPut: "put", api.OpEq: "eq", api.OpAtom: "atom",
	} {
		if s := op.Name(n); s != want {
			t.Errorf("Name(%d) = %q, not %q", n, s, want)
		}
	}
	for _, n := range noKinds() {
		if s := op.Name(n); s != "" {
			t.Errorf("Name(%d) = %q", n, s)
		}
	}
}

func TestKindsAreThoseOfTheChapter(t *testing.T) {
	for i, k := range kinds() {
		if s := op.Name(i + 1); k.number != i+1 || s != k.word {
			t.Errorf("Name(%d) = %q, not %q", i+1, s, k.word)
		}
	}
}

// P8.2

// known are operations with their texts, worked out by hand.
func known() map[string]api.Op {
	return map[string]api.Op{
		"set 0 0":                   {Kind: api.OpSet},
		"set 1 900":                 {Kind: api.OpSet, A: 1, B: 900},
		"set 0 9223372036854775807": {Kind: api.OpSet, B: math.MaxInt},
		"move 12 345":               {Kind: api.OpMove, A: 12, B: 345},
		"cons 0 0 0":                {Kind: api.OpCons},
		"cons 10 200 3000":          {Kind: api.OpCons, A: 10, B: 200, C: 3000},
		"cons 9223372036854775807 9223372036854775807 9223372036854775807": {Kind: api.OpCons, A: math.MaxInt, B: math.MaxInt, C: math.MaxInt},
		"car 1 2":                          {Kind: api.OpCar, A: 1, B: 2},
		"cdr 2 1":                          {Kind: api.OpCdr, A: 2, B: 1},
		"rplaca 0 63":                      {Kind: api.OpRplaca, B: 63},
		"rplacd 63 0":                      {Kind: api.OpRplacd, A: 63},
		"get 3 4":                          {Kind: api.OpGet, A: 3, B: 4},
		"put 3 4":                          {Kind: api.OpPut, A: 3, B: 4},
		"eq 7 70":                          {Kind: api.OpEq, A: 7, B: 70},
		"atom 0":                           {Kind: api.OpAtom},
		"atom 9223372036854775807":         {Kind: api.OpAtom, A: math.MaxInt},
		"put 9223372036854775806 99999999": {Kind: api.OpPut, A: math.MaxInt - 1, B: 99999999},
	}
}

func TestTextsByHand(t *testing.T) {
	for s, x := range known() {
		mustText(t, x, s)
		mustParse(t, s, x)
	}
}

func TestTextOfAllNumbers(t *testing.T) {
	for _, k := range kinds() {
		for _, n := range triples(ends()...) {
			s := textOf(k, n)
			mustText(t, of(k.number, n), s)
			if s != "" {
				mustParse(t, s, of(k.number, cut(k, n)))
			}
		}
	}
}

func TestTextOfNumbersBelowZero(t *testing.T) {
	for _, k := range kinds() {
		for i := range len(k.has) {
			for _, n := range []int{math.MinInt, math.MinInt + 1, math.MinInt32, -10, -2, -1} {
				numbers := [3]int{1, 2, 3}
				numbers[i] = n
				mustText(t, of(k.number, numbers), "")
			}
		}
	}
}

func TestTextOfKindsThatThereAreNot(t *testing.T) {
	for _, n := range noKinds() {
		for _, numbers := range triples(math.MinInt, -1, 0, 1, math.MaxInt) {
			mustText(t, of(n, numbers), "")
		}
	}
}

// A text hangs on no configuration: operations that aren't right for any have one, too.
func TestTextsOfOperationsThatAreNotRight(t *testing.T) {
	x := api.Op{Kind: api.OpCons, A: 64, B: 1 << 40, C: math.MaxInt}
	mustCheck(t, most, x, api.ErrRange)
	mustText(t, x, "cons 64 1099511627776 9223372036854775807")
	mustParse(t, "cons 64 1099511627776 9223372036854775807", x)
}

func TestParseRefusesOtherWords(t *testing.T) {
	for _, word := range []string{
		"", "what", "se", "sett", "xset", "Set", "SET", "sEt", "op", "nil", "list", "rplac", "rplacx", "rplacda", "caar", "cadr", "conscar",
		"set,", "set:", "(set", "0", "1", "3", "11", "#1", "-", "+", "\x00", "set\x00", "\x00set", "s\x00et", "\xff", "set\xff", "ｓｅｔ", "ѕet",
		"ok", "true", "false", "full", "bad", "none", "r", "rk", "rr", "rrr", "g", "k", strings.Repeat("set", 1<<16),
	} {
		mustRefuseWord(t, word)
	}
	for _, k := range kinds() {
		mustRefuseWord(t, strings.ToUpper(k.word))
		mustRefuseWord(t, strings.ToUpper(k.word[:1])+k.word[1:])
		mustRefuseWord(t, k.word[:len(k.word)-1])
		mustRefuseWord(t, k.word[1:])
		mustRefuseWord(t, k.word+k.word)
		mustRefuseWord(t, k.word+"\x00")
		mustRefuseWord(t, strconv.Itoa(k.number))
	}
}

// mustRefuseWord holds that a word that is none begins no text, however many numbers are behind it.
func mustRefuseWord(t *testing.T, word string) {
	t.Helper()
	for _, numbers := range []string{"", " ", " 0", " 1 2", " 1 2 3", " 1 2 3 4"} {
		mustRefuse(t, word+numbers)
	}
}

func TestParseRefusesAnotherCountOfNumbers(t *testing.T) {
	for _, k := range kinds() {
		for count := range 9 {
			for _, n := range []string{"0", "1", "9223372036854775807"} {
				if s := join(k.word, slices.Repeat([]string{n}, count)...); count != len(k.has) {
					mustRefuse(t, s)
				} else if _, e := op.Parse(s); e != api.OK {
					t.Errorf("Parse(%q) tells %d", s, e)
				}
			}
		}
		mustRefuse(t, join(k.word, slices.Repeat([]string{"0"}, 1<<16)...))
	}
}

// noDigits are texts that no number from 0 on has.
func noDigits() []string {
	return []string{
		"", "00", "01", "007", "000", "-0", "+0", "-1", "+1", "--1", "++1", "-", "+", "1-", "1+", "- 1",
		"x", "1x", "x1", "1x1", "one", "nil", "#1", "?1", "1.", "1.0", ".1", "1e0", "1E3", "0x1", "0X1", "0b1", "0o1", "1_0", "1,", "1;", "'1'",
		"\x00", "1\x00", "\x001", "1\x001", "\xff", "1\xff", "\xff1", "\t1", "1\t", "1\n", "\n1", "1\r", "１", "٣", "é", "1\u00a0", "\u20031",
		"9223372036854775808", "9223372036854775809", "9223372036854775810", "10000000000000000000", "-9223372036854775808", "-9223372036854775809",
		// These come round to 1 in a word of so many bits.
		"18446744073709551617", "340282366920938463463374607431768211457",
		"18446744073709551615", "18446744073709551616", "99999999999999999999",
		strings.Repeat("0", 1<<16), strings.Repeat("0", 1<<16) + "1", strings.Repeat("1", 1<<16), strings.Repeat("9", 1<<20), strings.Repeat("x", 1<<20),
	}
}

func TestParseRefusesOtherNumbers(t *testing.T) {
	for _, k := range kinds() {
		for i := range len(k.has) {
			for _, other := range noDigits() {
				numbers := slices.Repeat([]string{"1"}, len(k.has))
				numbers[i] = other
				mustRefuse(t, join(k.word, numbers...))
			}
		}
		for _, other := range noDigits() {
			mustRefuse(t, join(k.word, slices.Repeat([]string{other}, len(k.has))...))
		}
	}
}

func TestParseRefusesOtherForms(t *testing.T) {
	for _, s := range []string{
		"", " ", "  ", "   ", "    ", "\n", "\t", "\x00", "\x00\x00\x00", "1", "1 2", "1 set 2", "1 2 set", "1 2 3 cons", "set set", "set set 1", "set 1 set",
		"set1 2", "set 1,2", "set,1,2", "set(1 2)", "(set 1 2)", "set 1 2;", "set 1 2 set 1 2", "set 1 2\nset 1 2", "set 1 2set 1 2",
		"1 1 900", "3 0 1 2", "put 1 2 \x00", strings.Repeat(" ", 1<<20), strings.Repeat("set 1 ", 1<<16), strings.Repeat("\x00", 1<<20),
	} {
		mustRefuse(t, s)
	}
}

// Another gap than one space, between any two, ahead or behind, makes no text.
func TestParseRefusesOtherGaps(t *testing.T) {
	for _, k := range kinds() {
		s := textOf(k, [3]int{10, 20, 30})
		if _, e := op.Parse(s); e != api.OK {
			t.Fatalf("Parse(%q) tells %d", s, e)
		}
		for _, gap := range []string{" ", "  ", "\t", "\n", "\r", "\v", "\f", "\x00", ",", "\u00a0", "\u2003", strings.Repeat(" ", 1<<12)} {
			mustRefuse(t, gap+s)
			mustRefuse(t, s+gap)
			for i := range len(s) {
				if s[i] != ' ' {
					continue
				}
				mustRefuse(t, s[:i]+gap+s[i:])
				mustRefuse(t, s[:i+1]+gap+s[i+1:])
				if gap != " " {
					mustRefuse(t, s[:i]+gap+s[i+1:])
				}
			}
		}
	}
}

// Wherever a byte of a text is taken away, put in or another one, what is left is no text, or another operation's.
func TestParseReadsEveryByte(t *testing.T) {
	for _, k := range kinds() {
		s := textOf(k, [3]int{12, 34, 56})
		for i := range len(s) {
			mustReadBackOrRefuse(t, s[:i]+s[i+1:])
			for b := range 256 {
				mustReadBackOrRefuse(t, s[:i]+string([]byte{byte(b)})+s[i:])
				mustReadBackOrRefuse(t, s[:i]+string([]byte{byte(b)})+s[i+1:])
				mustReadBackOrRefuse(t, s+string([]byte{byte(b)}))
			}
		}
	}
}

// mustReadBackOrRefuse holds that a text that is taken is put together again out of the chapter's table.
func mustReadBackOrRefuse(t *testing.T, s string) {
	t.Helper()
	x, e := op.Parse(s)
	if e != api.OK {
		mustRefuse(t, s)
		return
	}
	if x.Kind < 1 || x.Kind > len(kinds()) {
		t.Fatalf("Parse(%q) = %+v", s, x)
	}
	k, n := kinds()[x.Kind-1], [3]int{x.A, x.B, x.C}
	if textOf(k, n) != s || cut(k, n) != n {
		t.Errorf("Parse(%q) = %+v, whose text is %q", s, x, textOf(k, n))
	}
}

// P8.3

func TestRegsByHand(t *testing.T) {
	mustRegs(t, api.Op{Kind: api.OpSet, A: 7, B: 3, C: 9}, 7)
	mustRegs(t, api.Op{Kind: api.OpMove, A: 7, B: 3, C: 9}, 7, 3)
	mustRegs(t, api.Op{Kind: api.OpCons, A: 7, B: 3, C: 9}, 7, 3, 9)
	mustRegs(t, api.Op{Kind: api.OpCons, A: 5, B: 5, C: 5}, 5, 5, 5)
	mustRegs(t, api.Op{Kind: api.OpCar, A: 7, B: 3, C: 9}, 7, 3)
	mustRegs(t, api.Op{Kind: api.OpCdr, A: 7, B: 3, C: 9}, 7, 3)
	mustRegs(t, api.Op{Kind: api.OpRplaca, A: 7, B: 3, C: 9}, 7, 3)
	mustRegs(t, api.Op{Kind: api.OpRplacd, A: 7, B: 3, C: 9}, 7, 3)
	mustRegs(t, api.Op{Kind: api.OpGet, A: 7, B: 3, C: 9}, 7)
	mustRegs(t, api.Op{Kind: api.OpPut, A: 7, B: 3, C: 9}, 3)
	mustRegs(t, api.Op{Kind: api.OpEq, A: 7, B: 3, C: 9}, 7, 3)
	mustRegs(t, api.Op{Kind: api.OpAtom, A: 7, B: 3, C: 9}, 7)
	mustRegs(t, api.Op{Kind: api.OpCons, A: -1, B: math.MinInt, C: math.MaxInt}, -1, math.MinInt, math.MaxInt)
}

func TestRegsOfAllNumbers(t *testing.T) {
	for _, k := range kinds() {
		for _, n := range triples(ends()...) {
			mustRegs(t, of(k.number, n), regsOf(k, n)...)
		}
	}
}

func TestRegsOfKindsThatThereAreNot(t *testing.T) {
	for _, n := range noKinds() {
		for _, numbers := range triples(math.MinInt, -1, 0, 1, math.MaxInt) {
			mustRegs(t, of(n, numbers))
		}
	}
}

// Stopped behind each number, and gone through from the beginning once more.
func TestRegsCanBeLeft(t *testing.T) {
	for _, k := range kinds() {
		n := [3]int{math.MinInt, -1, math.MaxInt}
		regs, want := op.Regs(of(k.number, n)), regsOf(k, n)
		for stop := 1; stop <= len(want); stop++ {
			var got []int
			for r := range regs {
				got = append(got, r)
				if len(got) == stop {
					break
				}
			}
			if !slices.Equal(got, want[:stop]) {
				t.Errorf("%s: stopped behind %d numbers there were %v, not %v", k.word, stop, got, want[:stop])
			}
			if got := slices.Collect(regs); !slices.Equal(got, want) {
				t.Errorf("%s: behind a stop there are %v, not %v", k.word, got, want)
			}
		}
	}
}

func TestRegsInsideEachOther(t *testing.T) {
	regs := op.Regs(api.Op{Kind: api.OpCons, A: 4, B: 5, C: 6})
	var got []string
	for a := range regs {
		for b := range regs {
			got = append(got, fmt.Sprint(a, b))
		}
	}
	want := []string{"4 4", "4 5", "4 6", "5 4", "5 5", "5 6", "6 4", "6 5", "6 6"}
	if !slices.Equal(got, want) {
		t.Errorf("%q, not %q", got, want)
	}
}

func TestRet(t *testing.T) {
	for ret, want := range map[int]string{
		api.RetOK: "ok", api.RetTrue: "true", api.RetFalse: "false", api.RetAtom: "atom", api.RetFull: "full", api.RetBad: "bad",
		api.RetNone: "", -1: "", -2: "", -6: "", -7: "", 7: "", 8: "", 12: "", 256: "", 257: "", 1<<32 + 1: "", 1<<62 + 2: "",
		math.MinInt: "", math.MinInt + 1: "", math.MinInt32: "", math.MaxInt32: "", math.MaxInt - 1: "", math.MaxInt: "",
	} {
		if s := op.Ret(ret); s != want {
			t.Errorf("Ret(%d) = %q, not %q", ret, s, want)
		}
	}
}

// Numbers that a kind hasn't play no part, whatever they are.
func TestNumbersThatAKindHasNot(t *testing.T) {
	for _, k := range kinds() {
		for _, n := range triples(ends()...) {
			x, without := of(k.number, n), of(k.number, cut(k, n))
			for _, c := range []api.Config{some, {}} {
				mustCheck(t, c, x, op.Check(c, without))
			}
			mustText(t, x, op.Text(without))
			mustRegs(t, x, slices.Collect(op.Regs(without))...)
		}
	}
}

// P1

func FuzzParse(f *testing.F) {
	for s := range known() {
		f.Add(s)
	}
	for _, s := range []string{"", " ", "set", "set 1", "atom 1 2", "car 01 2", "car 1 -2", "cons 1 2 3 4", "atom 9223372036854775808", "atom \xff", "atom \x00"} {
		f.Add(s)
	}
	f.Fuzz(func(t *testing.T, s string) {
		mustReadBackOrRefuse(t, s)
	})
}

func FuzzOperations(f *testing.F) {
	for _, n := range ends() {
		f.Add(3, 1, 2, 0, 3, n, 2, 3)
		f.Add(3, 1, 2, 1, n, 0, 1, n)
		f.Add(2, n, 1, 0, 9, 0, n, 0)
	}
	f.Fuzz(func(t *testing.T, cells, muts, regs, globs, number, a, b, c int) {
		x, n := api.Op{Kind: number, A: a, B: b, C: c}, [3]int{a, b, c}
		known := number > 0 && number <= len(kinds())
		var k kind
		if known {
			k = kinds()[number-1]
		}
		conf := api.Config{Cells: cells, Muts: muts, Regs: regs, Globs: globs}
		want := api.OK
		switch {
		case cells < 2 || cells > 4096 || muts < 1 || muts > 63 || regs < 1 || regs > 64 || globs < 0 || globs > 64:
			want = api.ErrArg
		case !known:
			want = api.ErrKind
		case !isRight(conf, k, n):
			want = api.ErrRange
		}
		mustCheck(t, conf, x, want)
		mustRegs(t, x, regsOf(k, n)...)
		if !known {
			mustText(t, x, "")
			return
		}
		mustText(t, x, textOf(k, n))
	})
}
