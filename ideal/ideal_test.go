package ideal_test

import (
	"fmt"
	"math"
	"strconv"
	"strings"
	"testing"

	"mudlark/api"
	"mudlark/ideal"
	"mudlark/op"
)

// size is how many mutators, registers of each, and globals a store has.
type size struct{ muts, regs, globs int }

var (
	least = size{1, 1, 0}
	some  = size{2, 3, 2}
	bare  = size{2, 3, 0}
	most  = size{63, 64, 64}
)

// kind is a row of chapter 8's table.
type kind struct {
	number int
	has    string // r, g or k of each number, A ahead
}

func kinds() []kind {
	return []kind{
		{api.OpSet, "rk"}, {api.OpMove, "rr"}, {api.OpCons, "rrr"}, {api.OpCar, "rr"}, {api.OpCdr, "rr"}, {api.OpRplaca, "rr"},
		{api.OpRplacd, "rr"}, {api.OpGet, "rg"}, {api.OpPut, "gr"}, {api.OpEq, "rr"}, {api.OpAtom, "r"},
	}
}

// noKinds are numbers that no kind has, some with a kind in their lower bits.
func noKinds() []int {
	return []int{
		0, -1, -2, -3, -11, -12, 12, 13, 255, 256, 257, 1<<8 + 3, 1<<16 + 1, 1<<32 + 1, 1<<32 + 11, 1<<62 + 3,
		math.MinInt, math.MinInt + 1, math.MinInt + 11, math.MinInt32, math.MaxInt32, math.MaxInt - 1, math.MaxInt,
	}
}

// outside are numbers that are none of 0 to 1 less than count; times a small number some of them are inside, by wrap-round.
func outside(count int) []int {
	l := []int{math.MinInt, math.MinInt + 1, -1 << 32, -count - 1, -count, -2, -1, count, count + 1, 2 * count, 4095, 4096, 4097, math.MaxInt - 1, math.MaxInt}
	for b := 16; b < 63; b++ {
		l = append(l, 1<<b, 1<<b+1, -(1 << b), 1-1<<b)
	}
	var out []int
	for _, n := range l {
		if n < 0 || n >= count {
			out = append(out, n)
		}
	}
	return out
}

// countOf is how many registers, globals or atoms there are.
func countOf(z size, sort byte) int {
	switch sort {
	case 'r':
		return z.regs
	case 'g':
		return z.globs
	}
	return math.MaxInt // and one more atom
}

// of is an operation with these numbers.
func of(kind int, n [3]int) api.Op {
	return api.Op{Kind: kind, A: n[0], B: n[1], C: n[2]}
}

func triples(l ...int) [][3]int {
	var all [][3]int
	for _, a := range l {
		for _, b := range l {
			for _, c := range l {
				all = append(all, [3]int{a, b, c})
			}
		}
	}
	return all
}

func parse(t testing.TB, s string) api.Op {
	t.Helper()
	x, e := op.Parse(s)
	if e != api.OK {
		t.Fatalf("%q is no operation", s)
	}
	return x
}

func newStore(t testing.TB, z size) *ideal.Store {
	t.Helper()
	s, e := ideal.New(z.muts, z.regs, z.globs)
	if e != api.OK || s == nil {
		t.Fatalf("New(%+v) = %v, %d", z, s, e)
	}
	return s
}

// do does an operation, with the result that is wanted.
func do(t testing.TB, s *ideal.Store, m int, x string, want int) {
	t.Helper()
	if ret := s.Do(m, parse(t, x), false); ret != want {
		t.Errorf("%s of %d: %d, not %d", x, m, ret, want)
	}
}

// allOK does operations of a mutator, all of which are ok.
func allOK(t testing.TB, s *ideal.Store, m int, l ...string) {
	t.Helper()
	for _, x := range l {
		do(t, s, m, x, api.RetOK)
	}
}

func wordText(w api.Word) string {
	if w%2 == 1 {
		return "#" + strconv.FormatUint(uint64(w/2), 10)
	}
	return strconv.FormatUint(uint64(w/2), 10)
}

// draw is what a store shows: registers, mutator by mutator, globals, cells.
func draw(z size, reg func(m, r int) api.Word, glob func(int) api.Word, count int, car, cdr func(int) api.Word) string {
	var parts []string
	for m := range z.muts {
		var row []string
		for r := range z.regs {
			row = append(row, wordText(reg(m, r)))
		}
		parts = append(parts, strings.Join(row, " "))
	}
	var globs, cells []string
	for g := range z.globs {
		globs = append(globs, wordText(glob(g)))
	}
	for i := range count {
		cells = append(cells, "("+wordText(car(i))+" . "+wordText(cdr(i))+")")
	}
	return strings.Join(append(parts, strings.Join(globs, " "), strings.Join(cells, " ")), "|")
}

func seen(s *ideal.Store, z size) string {
	return draw(z, s.Reg, s.Glob, s.Len(), s.Car, s.Cdr)
}

func mustShow(t testing.TB, what string, s *ideal.Store, z size, want string) {
	t.Helper()
	if got := seen(s, z); got != want {
		t.Errorf("%s: %.200s, not %.200s", what, got, want)
	}
}

// startText is what start shows.
const startText = "7 #0 #1|9 #1 0|#1 0|(5 . 5) (#0 . 6)"

// start is a store of some, with atoms, cells, and a cell that several have.
func start(t testing.TB) *ideal.Store {
	t.Helper()
	s := newStore(t, some)
	allOK(t, s, 0, "set 0 5", "cons 1 0 0", "set 0 6", "cons 2 1 0", "put 0 2", "set 0 7")
	allOK(t, s, 1, "set 0 9", "get 1 0")
	mustShow(t, "start", s, some, startText)
	return s
}

// node is a cell of a model, value what a model's register, global or cell has.
type node struct {
	number   int
	car, cdr value
}

type value struct {
	atom int
	cell *node
}

func (v value) word() api.Word {
	if v.cell != nil {
		return api.Word(2*v.cell.number + 1)
	}
	return api.Word(v.atom) * 2
}

// model is the chapter's store in another way: values point to their cells, and kinds are rows of functions.
type model struct {
	size
	regs  [][]value
	globs []value
	nodes []*node
}

func newModel(z size) *model {
	m := &model{size: z, globs: make([]value, z.globs)}
	for range z.muts {
		m.regs = append(m.regs, make([]value, z.regs))
	}
	return m
}

func (m *model) seen() string {
	return draw(m.size,
		func(i, r int) api.Word { return m.regs[i][r].word() },
		func(g int) api.Word { return m.globs[g].word() },
		len(m.nodes),
		func(i int) api.Word { return m.nodes[i].car.word() },
		func(i int) api.Word { return m.nodes[i].cdr.word() })
}

func (m *model) isRight(who int, x api.Op) bool {
	if who < 0 || who >= m.muts || x.Kind < 1 || x.Kind > len(kinds()) {
		return false
	}
	n := [3]int{x.A, x.B, x.C}
	for i, sort := range []byte(kinds()[x.Kind-1].has) {
		if n[i] < 0 || sort != 'k' && n[i] >= countOf(m.size, sort) {
			return false
		}
	}
	return true
}

func isTrue(b bool) int {
	if b {
		return api.RetTrue
	}
	return api.RetFalse
}

func (m *model) do(who int, x api.Op, full bool) int {
	if !m.isRight(who, x) {
		return api.RetBad
	}
	r := m.regs[who]
	isAtom := func(v value) bool { return v.cell == nil }
	switch {
	case x.Kind == api.OpEq:
		return isTrue(r[x.A] == r[x.B])
	case x.Kind == api.OpAtom:
		return isTrue(isAtom(r[x.A]))
	case x.Kind == api.OpCons && full:
		return api.RetFull
	case (x.Kind == api.OpCar || x.Kind == api.OpCdr) && isAtom(r[x.B]), (x.Kind == api.OpRplaca || x.Kind == api.OpRplacd) && isAtom(r[x.A]):
		return api.RetAtom
	}
	map[int]func(){
		api.OpSet:  func() { r[x.A] = value{atom: x.B} },
		api.OpMove: func() { r[x.A] = r[x.B] },
		api.OpCons: func() {
			m.nodes = append(m.nodes, &node{len(m.nodes), r[x.B], r[x.C]})
			r[x.A] = value{cell: m.nodes[len(m.nodes)-1]}
		},
		api.OpCar:    func() { r[x.A] = r[x.B].cell.car },
		api.OpCdr:    func() { r[x.A] = r[x.B].cell.cdr },
		api.OpRplaca: func() { r[x.A].cell.car = r[x.B] },
		api.OpRplacd: func() { r[x.A].cell.cdr = r[x.B] },
		api.OpGet:    func() { r[x.A] = m.globs[x.B] },
		api.OpPut:    func() { m.globs[x.A] = r[x.B] },
	}[x.Kind]()
	return api.RetOK
}

// alike does an operation in a store and in a model, and holds them against each other.
func alike(t testing.TB, s *ideal.Store, m *model, who int, x api.Op, full bool) {
	t.Helper()
	want := m.do(who, x, full)
	if ret := s.Do(who, x, full); ret != want {
		t.Fatalf("%+v of %d, full %v: %d, not %d", x, who, full, ret, want)
	}
	if got, want := seen(s, m.size), m.seen(); got != want {
		t.Fatalf("%+v of %d, full %v: %.200s, not %.200s", x, who, full, got, want)
	}
}

// startModel is a model that shows what start shows.
func startModel(t testing.TB) *model {
	t.Helper()
	m := newModel(some)
	for _, x := range []string{"set 0 5", "cons 1 0 0", "set 0 6", "cons 2 1 0", "put 0 2", "set 0 7"} {
		m.do(0, parse(t, x), false)
	}
	m.do(1, parse(t, "set 0 9"), false)
	m.do(1, parse(t, "get 1 0"), false)
	if got := m.seen(); got != startText {
		t.Fatal(got)
	}
	return m
}

// The chapter's example.
func TestExample(t *testing.T) {
	s := newStore(t, least)
	do(t, s, 0, "cons 0 0 0", api.RetOK)
	if s.Reg(0, 0) != 1 || s.Car(0) != api.Nil || s.Cdr(0) != api.Nil || s.Len() != 1 {
		t.Error(s.Reg(0, 0), s.Car(0), s.Cdr(0), s.Len())
	}
}

// P9.1

func TestNew(t *testing.T) {
	for _, z := range []size{least, some, bare, most, {63, 1, 0}, {1, 64, 0}, {1, 1, 64}, {63, 64, 0}, {1, 1, 1}, {2, 2, 1}} {
		s := newStore(t, z)
		for m := -1; m <= z.muts; m++ {
			for r := -1; r <= z.regs; r++ {
				if w := s.Reg(m, r); w != api.Nil {
					t.Errorf("%+v: the register %d %d is %d", z, m, r, w)
				}
			}
		}
		for i := -1; i <= max(z.globs, 3); i++ {
			if s.Glob(i) != api.Nil || s.Car(i) != api.Nil || s.Cdr(i) != api.Nil {
				t.Errorf("%+v: %d: %d, %d, %d", z, i, s.Glob(i), s.Car(i), s.Cdr(i))
			}
		}
		if s.Len() != 0 {
			t.Errorf("%+v: %d cells", z, s.Len())
		}
	}
}

// The first and the last register and global of the greatest store are there.
func TestNewOfTheGreatest(t *testing.T) {
	s := newStore(t, most)
	allOK(t, s, 62, "set 63 5", "put 63 63", "set 0 6", "put 0 0")
	if s.Reg(62, 63) != 10 || s.Glob(63) != 10 || s.Reg(62, 0) != 12 || s.Glob(0) != 12 {
		t.Error(s.Reg(62, 63), s.Glob(63), s.Reg(62, 0), s.Glob(0))
	}
}

func TestNewRefuses(t *testing.T) {
	refuse := func(muts, regs, globs int) {
		t.Helper()
		if s, e := ideal.New(muts, regs, globs); s != nil || e != api.ErrRange {
			t.Errorf("New(%d, %d, %d) = %v, %d", muts, regs, globs, s, e)
		}
	}
	for _, z := range []size{least, some, most} {
		refuse(0, z.regs, z.globs)
		refuse(z.muts, 0, z.globs)
		for _, n := range outside(64) {
			refuse(n, z.regs, z.globs)
		}
		for _, n := range outside(65) {
			refuse(z.muts, n, z.globs)
			refuse(z.muts, z.regs, n)
			refuse(n, n, n)
		}
	}
	refuse(0, 0, 0)
}

func TestDo(t *testing.T) {
	for _, c := range []struct {
		m    int
		x    string
		ret  int
		want string
	}{
		{0, "set 0 8", api.RetOK, "8 #0 #1|9 #1 0|#1 0|(5 . 5) (#0 . 6)"},
		{1, "set 2 3", api.RetOK, "7 #0 #1|9 #1 3|#1 0|(5 . 5) (#0 . 6)"},
		{0, "set 2 0", api.RetOK, "7 #0 0|9 #1 0|#1 0|(5 . 5) (#0 . 6)"},
		{1, "set 1 9223372036854775807", api.RetOK, "7 #0 #1|9 9223372036854775807 0|#1 0|(5 . 5) (#0 . 6)"},
		{0, "move 0 2", api.RetOK, "#1 #0 #1|9 #1 0|#1 0|(5 . 5) (#0 . 6)"},
		{1, "move 2 0", api.RetOK, "7 #0 #1|9 #1 9|#1 0|(5 . 5) (#0 . 6)"},
		{0, "move 1 1", api.RetOK, startText},
		{0, "cons 0 1 2", api.RetOK, "#2 #0 #1|9 #1 0|#1 0|(5 . 5) (#0 . 6) (#0 . #1)"},
		{1, "cons 2 0 1", api.RetOK, "7 #0 #1|9 #1 #2|#1 0|(5 . 5) (#0 . 6) (9 . #1)"},
		{0, "cons 0 0 1", api.RetOK, "#2 #0 #1|9 #1 0|#1 0|(5 . 5) (#0 . 6) (7 . #0)"},
		{0, "cons 2 0 2", api.RetOK, "7 #0 #2|9 #1 0|#1 0|(5 . 5) (#0 . 6) (7 . #1)"},
		{0, "cons 0 2 2", api.RetOK, "#2 #0 #1|9 #1 0|#1 0|(5 . 5) (#0 . 6) (#1 . #1)"},
		{1, "cons 1 1 1", api.RetOK, "7 #0 #1|9 #2 0|#1 0|(5 . 5) (#0 . 6) (#1 . #1)"},
		{0, "car 0 2", api.RetOK, "#0 #0 #1|9 #1 0|#1 0|(5 . 5) (#0 . 6)"},
		{0, "car 2 2", api.RetOK, "7 #0 #0|9 #1 0|#1 0|(5 . 5) (#0 . 6)"},
		{0, "car 2 1", api.RetOK, "7 #0 5|9 #1 0|#1 0|(5 . 5) (#0 . 6)"},
		{1, "cdr 0 1", api.RetOK, "7 #0 #1|6 #1 0|#1 0|(5 . 5) (#0 . 6)"},
		{0, "cdr 2 2", api.RetOK, "7 #0 6|9 #1 0|#1 0|(5 . 5) (#0 . 6)"},
		{0, "cdr 0 1", api.RetOK, "5 #0 #1|9 #1 0|#1 0|(5 . 5) (#0 . 6)"},
		{0, "rplaca 2 0", api.RetOK, "7 #0 #1|9 #1 0|#1 0|(5 . 5) (7 . 6)"},
		{0, "rplaca 1 2", api.RetOK, "7 #0 #1|9 #1 0|#1 0|(#1 . 5) (#0 . 6)"},
		{1, "rplaca 1 1", api.RetOK, "7 #0 #1|9 #1 0|#1 0|(5 . 5) (#1 . 6)"},
		{0, "rplacd 2 0", api.RetOK, "7 #0 #1|9 #1 0|#1 0|(5 . 5) (#0 . 7)"},
		{1, "rplacd 1 2", api.RetOK, "7 #0 #1|9 #1 0|#1 0|(5 . 5) (#0 . 0)"},
		{0, "rplacd 1 1", api.RetOK, "7 #0 #1|9 #1 0|#1 0|(5 . #0) (#0 . 6)"},
		{0, "get 0 0", api.RetOK, "#1 #0 #1|9 #1 0|#1 0|(5 . 5) (#0 . 6)"},
		{1, "get 1 1", api.RetOK, "7 #0 #1|9 0 0|#1 0|(5 . 5) (#0 . 6)"},
		{0, "put 1 1", api.RetOK, "7 #0 #1|9 #1 0|#1 #0|(5 . 5) (#0 . 6)"},
		{1, "put 0 0", api.RetOK, "7 #0 #1|9 #1 0|9 0|(5 . 5) (#0 . 6)"},
		{1, "put 0 2", api.RetOK, "7 #0 #1|9 #1 0|0 0|(5 . 5) (#0 . 6)"},
		{0, "eq 0 1", api.RetFalse, startText}, {0, "eq 1 2", api.RetFalse, startText}, {1, "eq 0 2", api.RetFalse, startText},
		{0, "eq 0 0", api.RetTrue, startText}, {1, "eq 1 1", api.RetTrue, startText}, {1, "eq 2 2", api.RetTrue, startText},
		{0, "atom 0", api.RetTrue, startText}, {0, "atom 1", api.RetFalse, startText}, {0, "atom 2", api.RetFalse, startText}, {1, "atom 2", api.RetTrue, startText},
	} {
		s := start(t)
		do(t, s, c.m, c.x, c.ret)
		mustShow(t, c.x, s, some, c.want)
	}
}

// Every operation of each mutator, with all numbers, told to be full and not, inside and just outside.
func TestDoOfAllNumbers(t *testing.T) {
	for k := 0; k <= len(kinds())+1; k++ {
		for _, n := range triples(-1, 0, 1, 2, 3) {
			for m := -1; m <= some.muts; m++ {
				alike(t, start(t), startModel(t), m, of(k, n), false)
				alike(t, start(t), startModel(t), m, of(k, n), true)
			}
		}
	}
}

func TestConsOfAFullStore(t *testing.T) {
	s := start(t)
	for m := range some.muts {
		for _, n := range triples(0, 1, 2) {
			if ret := s.Do(m, of(api.OpCons, n), true); ret != api.RetFull {
				t.Errorf("cons %v of %d: %d", n, m, ret)
			}
			mustShow(t, "full", s, some, startText)
		}
	}
	// What isn't right is told so ahead of it.
	if ret := s.Do(0, api.Op{Kind: api.OpCons, A: 3}, true); ret != api.RetBad {
		t.Error(ret)
	}
	if ret := s.Do(2, api.Op{Kind: api.OpCons}, true); ret != api.RetBad {
		t.Error(ret)
	}
	do(t, s, 0, "cons 0 0 0", api.RetOK)
	mustShow(t, "no more full", s, some, "#2 #0 #1|9 #1 0|#1 0|(5 . 5) (#0 . 6) (7 . 7)")
}

// Only cons asks whether the store is full.
func TestOtherKindsOfAFullStore(t *testing.T) {
	for _, k := range kinds() {
		if k.number == api.OpCons {
			continue
		}
		for _, n := range triples(0, 1) {
			for m := range some.muts {
				full, other := start(t), start(t)
				a, b := full.Do(m, of(k.number, n), true), other.Do(m, of(k.number, n), false)
				if a != b || a == api.RetFull {
					t.Errorf("%v of %d: %d, and %d", of(k.number, n), m, a, b)
				}
				mustShow(t, fmt.Sprint(of(k.number, n)), full, some, seen(other, some))
			}
		}
	}
}

func TestNoCell(t *testing.T) {
	s := newStore(t, some)
	allOK(t, s, 0, "cons 2 0 0", "set 1 3")
	const all = "0 3 #0|0 0 0|0 0|(0 . 0)"
	for _, x := range []string{
		"car 0 0", "car 1 0", "car 2 0", "car 0 1", "car 1 1", "car 2 1", "cdr 0 0", "cdr 1 0", "cdr 2 0", "cdr 0 1", "cdr 1 1", "cdr 2 1",
		"rplaca 0 0", "rplaca 0 1", "rplaca 0 2", "rplaca 1 0", "rplaca 1 1", "rplaca 1 2",
		"rplacd 0 0", "rplacd 0 1", "rplacd 0 2", "rplacd 1 0", "rplacd 1 1", "rplacd 1 2",
	} {
		do(t, s, 0, x, api.RetAtom)
		mustShow(t, x, s, some, all)
	}
	// The largest atoms are none either, nor are those whose number a cell's word has.
	for _, k := range []int{1, 2, math.MaxInt - 1, math.MaxInt} {
		allOK(t, s, 0, "set 1 "+strconv.Itoa(k))
		for _, x := range []string{"car 0 1", "cdr 0 1", "rplaca 1 2", "rplacd 1 2"} {
			do(t, s, 0, x, api.RetAtom)
		}
		mustShow(t, strconv.Itoa(k), s, some, "0 "+strconv.Itoa(k)+" #0|0 0 0|0 0|(0 . 0)")
	}
}

func TestACellThatHasItself(t *testing.T) {
	s := newStore(t, some)
	allOK(t, s, 0, "cons 0 1 2", "rplaca 0 0", "rplacd 0 0")
	mustShow(t, "itself", s, some, "#0 0 0|0 0 0|0 0|(#0 . #0)")
	allOK(t, s, 0, "car 1 0", "cdr 2 0", "car 0 0", "cdr 0 0")
	mustShow(t, "taken apart", s, some, "#0 #0 #0|0 0 0|0 0|(#0 . #0)")
	do(t, s, 0, "eq 1 2", api.RetTrue)
	do(t, s, 0, "atom 0", api.RetFalse)
	allOK(t, s, 0, "set 1 4", "rplaca 0 1")
	mustShow(t, "its car let go", s, some, "#0 4 #0|0 0 0|0 0|(4 . #0)")
}

// Two cells that have each other, over a global; what one mutator changes the other one sees.
func TestCellsThatSeveralHave(t *testing.T) {
	s := newStore(t, some)
	allOK(t, s, 0, "set 0 1", "cons 1 0 0", "put 0 1", "put 1 1", "move 2 1")
	allOK(t, s, 1, "get 0 0", "get 2 1", "set 1 8", "rplaca 0 1")
	mustShow(t, "changed by 1", s, some, "1 #0 #0|#0 8 #0|#0 #0|(8 . 1)")
	allOK(t, s, 0, "car 0 1", "cdr 2 2", "cons 2 1 0", "rplacd 1 2")
	mustShow(t, "changed by 0", s, some, "8 #0 #1|#0 8 #0|#0 #0|(8 . #1) (#0 . 8)")
	allOK(t, s, 1, "cdr 1 0", "put 0 1", "car 1 1", "rplacd 1 1")
	mustShow(t, "changed by 1 again", s, some, "8 #0 #1|#0 #0 #0|#1 #0|(8 . #0) (#0 . 8)")
	do(t, s, 1, "eq 0 1", api.RetTrue)
	do(t, s, 0, "eq 1 2", api.RetFalse)
}

func TestEq(t *testing.T) {
	s := newStore(t, size{1, 8, 0})
	allOK(t, s, 0, "set 0 1", "set 1 1", "set 2 2", "cons 3 0 2", "cons 4 0 2", "move 5 3", "set 7 9223372036854775807")
	const all = "1 1 2 #0 #1 #0 0 9223372036854775807||(1 . 2) (1 . 2)"
	mustShow(t, "ahead", s, size{1, 8, 0}, all)
	same := map[[2]int]bool{{0, 1}: true, {3, 5}: true}
	for a := range 8 {
		for b := range 8 {
			want := isTrue(a == b || same[[2]int{min(a, b), max(a, b)}])
			do(t, s, 0, fmt.Sprintf("eq %d %d", a, b), want)
			mustShow(t, "eq", s, size{1, 8, 0}, all)
		}
	}
	// The cell 0 is the word 1, and the atom 1 the word 2: neither is the other one's word.
	allOK(t, s, 0, "rplaca 4 3", "car 6 4")
	do(t, s, 0, "eq 6 3", api.RetTrue)
	do(t, s, 0, "eq 6 0", api.RetFalse)
}

func TestAtom(t *testing.T) {
	s := newStore(t, size{1, 2, 0})
	for _, k := range []int{0, 1, 2, 3, 4095, 4096, 1<<31 - 1, 1 << 32, 1<<62 + 1, math.MaxInt - 1, math.MaxInt} {
		allOK(t, s, 0, "set 0 "+strconv.Itoa(k))
		do(t, s, 0, "atom 0", api.RetTrue)
		allOK(t, s, 0, "cons 0 0 0")
		do(t, s, 0, "atom 0", api.RetFalse)
		do(t, s, 0, "atom 1", api.RetTrue)
	}
}

func TestSet(t *testing.T) {
	for _, k := range []int{0, 1, 2, 63, 64, 4095, 4096, 1<<32 - 1, 1 << 32, 1 << 62, math.MaxInt - 1, math.MaxInt} {
		s := start(t)
		allOK(t, s, 0, "set 1 "+strconv.Itoa(k))
		if w := s.Reg(0, 1); w != api.Word(k)*2 {
			t.Errorf("set 1 %d: %d", k, w)
		}
		mustShow(t, "set", s, some, fmt.Sprintf("7 %d #1|9 #1 0|#1 0|(5 . 5) (#0 . 6)", k))
	}
}

// A list of more cells than a configuration has: gone through, changed, and gone through again.
func TestManyCells(t *testing.T) {
	const count = 20000
	s := newStore(t, size{1, 4, 1})
	for i := range count {
		if i != s.Len() {
			t.Fatalf("%d cells, not %d", s.Len(), i)
		}
		allOK(t, s, 0, "set 1 "+strconv.Itoa(i), "cons 0 1 0")
		if w := s.Reg(0, 0); w != api.Word(2*i+1) {
			t.Fatalf("the cell %d is %d", i, w)
		}
		do(t, s, 0, "atom 0", api.RetFalse)
	}
	allOK(t, s, 0, "put 0 0")
	walk := func(plus int) {
		t.Helper()
		allOK(t, s, 0, "get 0 0")
		for i := count - 1; i >= 0; i-- {
			allOK(t, s, 0, "car 1 0", "move 2 0", "cdr 0 0", "cons 3 1 1", "rplaca 2 3", "car 3 2", "car 1 3", "set 3 "+strconv.Itoa(i+plus+1))
			if w := s.Reg(0, 1); w != api.Word(2*(i+plus)) {
				t.Fatalf("the car of %d is %d", i, w)
			}
			allOK(t, s, 0, "rplaca 2 3")
		}
		if s.Reg(0, 0) != api.Nil {
			t.Fatalf("at the end there is %d", s.Reg(0, 0))
		}
	}
	walk(0)
	walk(1)
	for i := range count {
		next := api.Nil
		if i > 0 {
			next = api.Word(2*i - 1)
		}
		if s.Car(i) != api.Word(2*i+4) || s.Cdr(i) != next {
			t.Fatalf("%d: %d, %d", i, s.Car(i), s.Cdr(i))
		}
	}
	if s.Len() != 3*count {
		t.Errorf("%d cells", s.Len())
	}
}

// Cells beyond those that a configuration has are cells as others are.
func TestACellBeyondAllMemories(t *testing.T) {
	z := size{2, 4, 1}
	s := newStore(t, z)
	for range 4096 {
		allOK(t, s, 0, "cons 3 3 3")
	}
	allOK(t, s, 0, "set 0 1", "cons 1 0 0", "cons 2 1 0", "put 0 2")
	if s.Reg(0, 1) != 8193 || s.Reg(0, 2) != 8195 || s.Car(4097) != 8193 || s.Len() != 4098 {
		t.Fatal(s.Reg(0, 1), s.Reg(0, 2), s.Car(4097), s.Len())
	}
	do(t, s, 0, "eq 1 2", api.RetFalse)
	do(t, s, 0, "atom 1", api.RetFalse)
	allOK(t, s, 1, "get 0 0", "rplacd 0 0", "car 1 0", "rplaca 1 0", "cdr 2 0")
	do(t, s, 1, "eq 0 2", api.RetTrue)
	do(t, s, 1, "atom 0", api.RetFalse)
	if s.Reg(1, 0) != 8195 || s.Reg(1, 1) != 8193 || s.Car(4096) != 8195 || s.Cdr(4096) != 2 || s.Cdr(4097) != 8195 {
		t.Error(s.Reg(1, 0), s.Reg(1, 1), s.Car(4096), s.Cdr(4096), s.Cdr(4097))
	}
}

// bad does an operation that isn't right, told to be full and not: nothing is changed.
func bad(t *testing.T, s *ideal.Store, z size, m int, x api.Op) {
	t.Helper()
	ahead := seen(s, z)
	for _, full := range []bool{false, true} {
		if ret := s.Do(m, x, full); ret != api.RetBad {
			t.Errorf("%+v of %d, full %v: %d", x, m, full, ret)
		}
	}
	mustShow(t, fmt.Sprintf("%+v of %d", x, m), s, z, ahead)
}

func TestMutatorsThatThereAreNot(t *testing.T) {
	s := start(t)
	for _, k := range kinds() {
		for _, m := range outside(some.muts) {
			bad(t, s, some, m, api.Op{Kind: k.number})
			bad(t, s, some, m, api.Op{Kind: k.number, A: 1, B: 1, C: 1})
		}
	}
	mustShow(t, "at the end", s, some, startText)
}

func TestKindsThatThereAreNot(t *testing.T) {
	s := start(t)
	for _, k := range noKinds() {
		for _, n := range triples(-1, 0, 1, math.MaxInt) {
			bad(t, s, some, 0, of(k, n))
			bad(t, s, some, 1, of(k, n))
		}
	}
	mustShow(t, "at the end", s, some, startText)
}

// Each number that a kind has, outside by itself, at the least and at the last of the others.
func TestNumbersOutside(t *testing.T) {
	s := start(t)
	for _, k := range kinds() {
		var lasts [3]int
		for i := range len(k.has) {
			lasts[i] = countOf(some, k.has[i]) - 1
		}
		for i := range len(k.has) {
			for _, n := range outside(countOf(some, k.has[i])) {
				if k.has[i] == 'k' && n >= 0 {
					continue
				}
				for _, numbers := range [][3]int{{}, lasts} {
					numbers[i] = n
					bad(t, s, some, 0, of(k.number, numbers))
					bad(t, s, some, 1, of(k.number, numbers))
				}
			}
		}
	}
	mustShow(t, "at the end", s, some, startText)
}

func TestNoGlobals(t *testing.T) {
	s := newStore(t, bare)
	allOK(t, s, 0, "set 0 4", "cons 1 0 0")
	for _, g := range append(outside(0), 0) {
		for r := range bare.regs {
			bad(t, s, bare, 0, api.Op{Kind: api.OpGet, A: r, B: g})
			bad(t, s, bare, 0, api.Op{Kind: api.OpPut, A: g, B: r})
		}
		if s.Glob(g) != api.Nil {
			t.Errorf("the global %d is %d", g, s.Glob(g))
		}
	}
	mustShow(t, "at the end", s, bare, "4 #0 0|0 0 0||(4 . 4)")
}

// Registers and globals aren't as many: each has its own end.
func TestRegistersAndGlobalsHaveTheirOwnEnds(t *testing.T) {
	few, many := size{1, 2, 4}, size{1, 4, 2}
	a, b := newStore(t, few), newStore(t, many)
	allOK(t, a, 0, "put 3 1", "get 1 3")
	allOK(t, b, 0, "put 1 3", "get 3 1")
	for _, k := range []int{api.OpGet, api.OpPut} {
		for n := 2; n < 4; n++ {
			bad(t, a, few, 0, of(k, [3]int{n, n}))
			bad(t, b, many, 0, of(k, [3]int{n, n}))
		}
	}
	bad(t, a, few, 0, api.Op{Kind: api.OpPut, A: 1, B: 3})
	bad(t, a, few, 0, api.Op{Kind: api.OpGet, A: 3, B: 1})
	bad(t, b, many, 0, api.Op{Kind: api.OpPut, A: 3, B: 1})
	bad(t, b, many, 0, api.Op{Kind: api.OpGet, A: 1, B: 3})
}

func TestNumbersThatAKindHasNot(t *testing.T) {
	for _, k := range kinds() {
		for _, n := range []int{math.MinInt, -1, 1, 2, 3, 64, 4096, 1 << 32, math.MaxInt} {
			x := [3]int{1, 1, 1}
			without := start(t)
			want := without.Do(0, of(k.number, x), false)
			for i := len(k.has); i < 3; i++ {
				x[i] = n
			}
			s := start(t)
			if ret := s.Do(0, of(k.number, x), false); ret != want || ret == api.RetBad {
				t.Errorf("%+v: %d, not %d", of(k.number, x), ret, want)
			}
			mustShow(t, fmt.Sprint(of(k.number, x)), s, some, seen(without, some))
		}
	}
}

// P9.2

// Where there is nothing there is 0, though all that is there has something else.
func TestWhatIsNotThere(t *testing.T) {
	s := newStore(t, some)
	for m := range some.muts {
		for r := range some.regs {
			allOK(t, s, m, fmt.Sprintf("set %d 9", r))
		}
	}
	allOK(t, s, 0, "put 0 0", "put 1 0", "cons 0 0 0", "cons 0 0 0", "set 0 9")
	mustShow(t, "all that is there", s, some, "9 9 9|9 9 9|9 9|(9 . 9) (#0 . #0)")
	// There are two mutators, two globals and two cells.
	for _, n := range outside(2) {
		for r := -1; r <= some.regs; r++ {
			if w := s.Reg(n, r); w != 0 {
				t.Errorf("Reg(%d, %d) = %d", n, r, w)
			}
		}
		if s.Glob(n) != 0 || s.Car(n) != 0 || s.Cdr(n) != 0 {
			t.Errorf("%d: %d, %d, %d", n, s.Glob(n), s.Car(n), s.Cdr(n))
		}
	}
	for _, n := range outside(some.regs) {
		for m := -1; m <= some.muts; m++ {
			if w := s.Reg(m, n); w != 0 {
				t.Errorf("Reg(%d, %d) = %d", m, n, w)
			}
		}
		if w := s.Reg(n, n); w != 0 {
			t.Errorf("Reg(%d, %d) = %d", n, n, w)
		}
	}
}

func TestLen(t *testing.T) {
	for _, k := range kinds() {
		for _, full := range []bool{false, true} {
			s := start(t)
			for n := range 5 {
				want := 2
				if k.number == api.OpCons && !full {
					want += n
				}
				if got := s.Len(); got != want {
					t.Errorf("%d cells behind %d times the kind %d, not %d", got, n, k.number, want)
				}
				s.Do(0, api.Op{Kind: k.number, A: 1, B: 1, C: 1}, full)
			}
		}
	}
}

func TestCopy(t *testing.T) {
	s := start(t)
	c := s.Copy()
	mustShow(t, "the copy", c, some, startText)
	allOK(t, s, 0, "set 0 1", "put 0 0", "put 1 0", "rplaca 1 0", "rplacd 2 0", "cons 2 0 0")
	const changed = "1 #0 #2|9 #1 0|1 1|(1 . 5) (#0 . 1) (1 . 1)"
	mustShow(t, "the store", s, some, changed)
	mustShow(t, "the copy behind the store", c, some, startText)
	allOK(t, c, 1, "set 0 3", "put 1 1", "rplaca 1 0", "rplacd 1 1", "cons 2 2 1", "cons 2 2 0")
	const other = "7 #0 #1|3 #1 #3|#1 #1|(5 . 5) (3 . #1) (0 . #1) (#2 . 3)"
	mustShow(t, "the copy", c, some, other)
	mustShow(t, "the store behind the copy", s, some, changed)
	cc := c.Copy()
	mustShow(t, "the copy's copy", cc, some, other)
	allOK(t, cc, 0, "set 0 2", "cons 1 0 0", "put 0 1", "rplaca 2 0")
	mustShow(t, "the copy's copy", cc, some, "2 #4 #1|3 #1 #3|#4 #1|(5 . 5) (2 . #1) (0 . #1) (#2 . 3) (2 . 2)")
	mustShow(t, "the copy behind its copy", c, some, other)
	mustShow(t, "the store behind the copy's copy", s, some, changed)
}

// A copy takes over which operations are right.
func TestACopyHasItsEnds(t *testing.T) {
	for _, z := range []size{least, some, bare} {
		c := newStore(t, z).Copy().Copy()
		bad(t, c, z, z.muts, api.Op{Kind: api.OpAtom})
		bad(t, c, z, 0, api.Op{Kind: api.OpAtom, A: z.regs})
		bad(t, c, z, 0, api.Op{Kind: api.OpPut, A: z.globs})
		do(t, c, z.muts-1, fmt.Sprintf("atom %d", z.regs-1), api.RetTrue)
	}
}

// At whatever length of its lists a store is copied, cells that are made behind it are its own.
func TestCopyAtEachLength(t *testing.T) {
	z := size{1, 2, 0}
	for count := range 70 {
		s := newStore(t, z)
		for range count {
			allOK(t, s, 0, "cons 0 0 1")
		}
		a, b := s.Copy(), s.Copy()
		allOK(t, a, 0, "set 1 5", "cons 0 1 1")
		allOK(t, b, 0, "set 1 6", "cons 0 1 1")
		allOK(t, s, 0, "set 1 7", "cons 0 1 1")
		if a.Car(count) != 10 || b.Car(count) != 12 || s.Car(count) != 14 || a.Len() != count+1 || b.Len() != count+1 || s.Len() != count+1 {
			t.Errorf("%d: %d, %d, %d", count, a.Car(count), b.Car(count), s.Car(count))
		}
		if count > 0 && (a.Car(count-1) != s.Car(count-1) || b.Cdr(count-1) != 0) {
			t.Errorf("%d: %d, %d", count, a.Car(count-1), b.Cdr(count-1))
		}
	}
}

// P9.3

func TestOtherMutatorsKeepTheirRegisters(t *testing.T) {
	s := newStore(t, most)
	for m := range most.muts {
		for r := range most.regs {
			s.Do(m, api.Op{Kind: api.OpSet, A: r, B: 100*m + r}, false)
		}
	}
	for _, who := range []int{0, 1, 31, 61, 62} {
		for _, k := range kinds() {
			for _, r := range []int{0, 1, 62, 63} {
				s.Do(who, api.Op{Kind: api.OpCons, A: 1, B: 1, C: 1}, false)
				s.Do(who, api.Op{Kind: k.number, A: r, B: 1, C: r}, false)
				s.Do(who, api.Op{Kind: k.number, A: 1, B: r, C: r}, false)
			}
		}
		for m := range most.muts {
			for r := range most.regs {
				if w := s.Reg(m, r); m != who && w != api.Word(200*m+2*r) {
					t.Fatalf("operations of %d: the register %d %d is %d", who, m, r, w)
				}
			}
		}
		for r := range most.regs {
			s.Do(who, api.Op{Kind: api.OpSet, A: r, B: 100*who + r}, false)
		}
	}
}

func TestQuestionsChangeNothing(t *testing.T) {
	s := start(t)
	for m := range some.muts {
		for _, n := range triples(0, 1, 2) {
			for _, k := range []int{api.OpEq, api.OpAtom} {
				if ret := s.Do(m, of(k, n), n[2] == 0); ret != api.RetTrue && ret != api.RetFalse {
					t.Errorf("%+v: %d", of(k, n), ret)
				}
				mustShow(t, fmt.Sprint(of(k, n)), s, some, startText)
			}
		}
	}
}

func TestStoresThatAreMadeAlike(t *testing.T) {
	a, b := start(t), start(t)
	allOK(t, a, 0, "set 0 1", "put 0 0", "rplaca 1 0", "cons 2 0 0")
	mustShow(t, "the other one", b, some, startText)
	allOK(t, b, 0, "set 0 1", "put 0 0", "rplaca 1 0", "cons 2 0 0")
	mustShow(t, "both", b, some, seen(a, some))
	c := newStore(t, some)
	mustShow(t, "a new one", c, some, "0 0 0|0 0 0|0 0|")
}

func TestNilStore(t *testing.T) {
	var s *ideal.Store
	for _, n := range append(outside(1), 0, 1) {
		for k := -1; k <= len(kinds())+1; k++ {
			for _, full := range []bool{false, true} {
				if ret := s.Do(n, api.Op{Kind: k}, full); ret != api.RetBad {
					t.Errorf("Do(%d, %d) = %d", n, k, ret)
				}
				if ret := s.Do(0, api.Op{Kind: k, A: n, B: n, C: n}, full); ret != api.RetBad {
					t.Errorf("Do of %d, %d = %d", n, k, ret)
				}
			}
		}
		if s.Reg(n, 0) != 0 || s.Reg(0, n) != 0 || s.Reg(n, n) != 0 || s.Glob(n) != 0 || s.Car(n) != 0 || s.Cdr(n) != 0 {
			t.Errorf("%d: a nil store has something", n)
		}
	}
	if s.Len() != 0 {
		t.Error(s.Len())
	}
	if c := s.Copy(); c != nil {
		t.Error(c)
	}
}

// P1

// run does operations that stand in bytes, five each, in a store and in a model, and goes on with a copy now and then.
func run(t testing.TB, z size, program []byte) {
	t.Helper()
	s, m := newStore(t, z), newModel(z)
	number := func(b byte, count int) int {
		// Of 32 one is outside, on either side.
		switch b % 32 {
		case 30:
			return count
		case 31:
			return -1
		}
		return int(b) % max(count, 1)
	}
	for ; len(program) >= 5; program = program[5:] {
		b := program[:5]
		x := api.Op{Kind: 1 + number(b[1], len(kinds())), A: number(b[2], z.regs), B: number(b[3], z.regs), C: number(b[4], z.regs)}
		switch x.Kind {
		case api.OpPut:
			x.A = number(b[2], z.globs)
		case api.OpGet:
			x.B = number(b[3], z.globs)
		}
		alike(t, s, m, number(b[0], z.muts), x, b[4]%16 == 15)
		if b[0]%8 == 7 {
			old := s
			s = s.Copy()
			// What is done to the one that is left behind the other one doesn't show.
			old.Do(0, x, false)
			old.Do(0, api.Op{Kind: api.OpSet, B: 99}, false)
			old.Do(0, api.Op{Kind: api.OpRplaca, A: z.regs - 1}, false)
		}
	}
}

func TestLongRuns(t *testing.T) {
	seed := uint64(9)
	program := func() []byte {
		l := make([]byte, 5*200)
		for i := range l {
			seed = seed*6364136223846793005 + 1442695040888963407
			l[i] = byte(seed >> 56)
		}
		return l
	}
	for _, z := range []size{least, some, bare, {1, 4, 1}, {3, 5, 4}} {
		for range 20 {
			run(t, z, program())
		}
	}
	run(t, most, program())
}

func FuzzDo(f *testing.F) {
	f.Add(uint8(1), uint8(1), uint8(0), []byte{0, 2, 0, 0, 0, 0, 5, 0, 0, 0})
	f.Add(uint8(2), uint8(3), uint8(2), []byte{0, 0, 0, 1, 0, 1, 2, 1, 0, 1, 7, 8, 0, 1, 0, 31, 7, 30, 1, 15})
	f.Fuzz(func(t *testing.T, muts, regs, globs uint8, program []byte) {
		run(t, size{1 + int(muts)%63, 1 + int(regs)%64, int(globs) % 65}, program)
	})
}

func FuzzAnyNumbers(f *testing.F) {
	f.Add(1, 1, 0, 0, 3, 0, 0, 0, false)
	f.Add(2, 3, 2, 1, 1, 2, math.MaxInt, math.MinInt, true)
	f.Add(math.MinInt, math.MaxInt, 0, 0, 0, 0, 0, 0, true)
	f.Fuzz(func(t *testing.T, muts, regs, globs, m, kind, a, b, c int, full bool) {
		s, e := ideal.New(muts, regs, globs)
		right := muts >= 1 && muts <= 63 && regs >= 1 && regs <= 64 && globs >= 0 && globs <= 64
		if right != (e == api.OK) || right != (s != nil) || !right && e != api.ErrRange {
			t.Fatalf("New(%d, %d, %d) = %v, %d", muts, regs, globs, s, e)
		}
		s.Reg(a, b)
		s.Glob(a)
		s.Car(b)
		s.Cdr(c)
		x := api.Op{Kind: kind, A: a, B: b, C: c}
		if !right {
			if ret := s.Do(m, x, full); ret != api.RetBad {
				t.Fatal(ret)
			}
			return
		}
		alike(t, s, newModel(size{muts, regs, globs}), m, x, full)
	})
}
