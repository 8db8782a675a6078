package hand_test

import (
	"fmt"
	"math"
	"slices"
	"testing"

	"mudlark/api"
	"mudlark/arena"
	"mudlark/hand"
	"mudlark/place"
)

const last = api.Word(math.MaxUint64)

var (
	least = api.Config{Cells: 2, Muts: 1, Regs: 1, Globs: 0}
	some  = api.Config{Cells: 3, Muts: 2, Regs: 2, Globs: 2}
	most  = api.Config{Cells: 4096, Muts: 63, Regs: 64, Globs: 64}
)

func right() []api.Config {
	return []api.Config{least, some, most, {Cells: 4096, Muts: 1, Regs: 1}, {Cells: 2, Muts: 63, Regs: 64, Globs: 64}}
}

// wrong are configurations that aren't right: the empty one, each number at fault by itself, and all of them.
func wrong() []api.Config {
	l := []api.Config{{}}
	for _, c := range []api.Config{least, some, most} {
		for _, n := range []int{math.MinInt, math.MinInt + 2, -1 << 32, -2, -1, 5000, 1 << 32, 1<<32 + 2, math.MaxInt - 1, math.MaxInt} {
			l = append(l, each(c, n, n, n, n)...)
			l = append(l, api.Config{Cells: n, Muts: n, Regs: n, Globs: n})
		}
		l = append(l, each(c, 1, 0, 0, -1)...)
		l = append(l, each(c, 4097, 64, 65, 65)...)
	}
	return l
}

// each are four configurations: in each of them one number of c is another one.
func each(c api.Config, cells, muts, regs, globs int) []api.Config {
	return []api.Config{
		{Cells: cells, Muts: c.Muts, Regs: c.Regs, Globs: c.Globs}, {Cells: c.Cells, Muts: muts, Regs: c.Regs, Globs: c.Globs},
		{Cells: c.Cells, Muts: c.Muts, Regs: regs, Globs: c.Globs}, {Cells: c.Cells, Muts: c.Muts, Regs: c.Regs, Globs: globs},
	}
}

// words are atoms, cells, and words that are neither, the first and the last of each.
func words() []api.Word {
	return []api.Word{0, 1, 2, 3, 5, 8190, 8191, 8192, 8193, 1<<32 - 1, 1 << 32, 1<<63 - 1, 1 << 63, 1<<63 + 1, last - 1, last}
}

// kinds are the accesses that there are.
func kinds() []int {
	return []int{api.ALoad, api.AStore, api.ACas, api.AAdd}
}

func sizeOf(c api.Config) int {
	return firstCell(c) + 3*c.Cells
}

func firstCell(c api.Config) int {
	return 5 + c.Muts + c.Globs + c.Muts*c.Regs
}

// first are the words at first, as chapter 4 says it.
func first(c api.Config) []api.Word {
	l := make([]api.Word, sizeOf(c))
	l[0] = 1
	for i := range c.Cells - 1 {
		l[firstCell(c)+3*i+1] = api.Word(2*i + 3)
	}
	return l
}

// mixed are as many words as a map has places, no two of which are alike.
func mixed(count int) []api.Word {
	l := make([]api.Word, count)
	for at := range l {
		l[at] = api.Word(at+1) * 0x9e3779b97f4a7c15
	}
	return l
}

// spots are the first and the last place of each sort.
func spots(c api.Config) []int {
	firstIn := 5
	firstGlob := firstIn + c.Muts
	firstReg := firstGlob + c.Globs
	size := sizeOf(c)
	l := []int{
		0, 1, 2, 3, 4, firstIn, firstGlob - 1, firstReg, firstReg + c.Regs - 1, firstCell(c) - c.Regs, firstCell(c) - 1,
		firstCell(c), firstCell(c) + 1, firstCell(c) + 2, size - 3, size - 2, size - 1,
	}
	if c.Globs > 0 {
		l = append(l, firstGlob, firstReg-1)
	}
	slices.Sort(l)
	return slices.Compact(l)
}

// beyond are places that a map of so many places doesn't have.
func beyond(size int) []int {
	return []int{
		math.MinInt, math.MinInt + 1, math.MinInt + size, -1 << 32, -size, -2, -1,
		size, size + 1, 2*size + 1, 1 << 32, 1<<32 + size, 1 << 62, math.MaxInt - size, math.MaxInt - 1, math.MaxInt,
	}
}

// left is what an access leaves at its place, as chapter 5 says it.
func left(x api.Access, was api.Word) api.Word {
	switch x.Kind {
	case api.AStore:
		return x.X
	case api.ACas:
		if was == x.X {
			return x.Y
		}
	case api.AAdd:
		return was + x.X
	}
	return was
}

// told is what the call of an access answers: a word, and whether a cas wins.
type told struct {
	word api.Word
	won  bool
}

// answer is what the call of an access must answer where a word was, as the chapters say it.
func answer(x api.Access, was api.Word) told {
	switch x.Kind {
	case api.ALoad, api.AAdd:
		return told{word: was}
	case api.ACas:
		return told{won: was == x.X}
	}
	return told{}
}

// call does an access by the hand's own call of its kind.
func call(h *hand.Hand, x api.Access) told {
	switch x.Kind {
	case api.ALoad:
		return told{word: h.Load(x.At)}
	case api.AStore:
		h.Store(x.At, x.X)
	case api.ACas:
		return told{won: h.Cas(x.At, x.X, x.Y)}
	case api.AAdd:
		return told{word: h.Add(x.At, x.X)}
	}
	return told{}
}

// used is an access in which what its kind's call isn't handed is 0.
func used(x api.Access) api.Access {
	if x.Kind == api.ALoad {
		x.X = 0
	}
	if x.Kind != api.ACas {
		x.Y = 0
	}
	return x
}

func made(t *testing.T, c api.Config) *hand.Hand {
	t.Helper()
	h, e := hand.New(c)
	if h == nil || e != api.OK {
		t.Fatalf("New(%v) = %v, %d", c, h, e)
	}
	return h
}

func from(t *testing.T, c api.Config, l ...api.Word) *hand.Hand {
	t.Helper()
	h, e := hand.From(c, l...)
	if h == nil || e != api.OK {
		t.Fatalf("From(%v) of %d words = %v, %d", c, len(l), h, e)
	}
	return h
}

// mustHave holds all that a hand has against what it must be.
func mustHave(t *testing.T, what string, h *hand.Hand, x api.Access, want []api.Word) {
	t.Helper()
	if h.Access != x {
		t.Fatalf("%s: the access is %+v, not %+v", what, h.Access, x)
	}
	if got := h.All(); !slices.Equal(got, want) {
		t.Fatalf("%s: all words are %v, not %v", what, got, want)
	}
	if got := h.Arena.All(); !slices.Equal(got, want) {
		t.Fatalf("%s: all words of the arena are %v, not %v", what, got, want)
	}
}

func mustHaveMap(t *testing.T, h *hand.Hand, c api.Config) {
	t.Helper()
	if h.Map != (place.Map{Config: c}) || h.Config != c {
		t.Fatalf("the map is %v, not that of %v", h.Map, c)
	}
}

// mustRefuse holds the answer of New or From against an error.
func mustRefuse(t *testing.T, what string, want api.Errno) func(h *hand.Hand, e api.Errno) {
	t.Helper()
	return func(h *hand.Hand, e api.Errno) {
		t.Helper()
		if h != nil || e != want {
			t.Fatalf("%s = %v, %d, not nil, %d", what, h, e, want)
		}
	}
}

// mustDo calls an access at a place that is there, and holds the answer, the access and the words against what they must be.
func mustDo(t *testing.T, h *hand.Hand, x api.Access, l []api.Word) {
	t.Helper()
	was := l[x.At]
	if got := call(h, x); got != answer(x, was) {
		t.Fatalf("%+v where %d was tells %+v, not %+v", x, was, got, answer(x, was))
	}
	want := used(x)
	want.Old = was
	l[x.At] = left(x, was)
	mustHave(t, fmt.Sprintf("behind %+v", x), h, want, l)
}

// mustDoNothing calls an access at a place that isn't there.
func mustDoNothing(t *testing.T, h *hand.Hand, x api.Access, l []api.Word) {
	t.Helper()
	if got := call(h, x); got != (told{}) {
		t.Fatalf("%+v tells %+v", x, got)
	}
	mustHave(t, fmt.Sprintf("behind %+v", x), h, api.Access{}, l)
}

// The chapter's example.
func TestExample(t *testing.T) {
	h := made(t, least)
	if got := h.Load(api.AtFree); got != 1 {
		t.Errorf("load of free tells %d", got)
	}
	mustHave(t, "behind load", h, api.Access{Kind: api.ALoad, At: 0, Old: 1}, first(least))
}

// P7.1

func TestNew(t *testing.T) {
	for _, c := range right() {
		h := made(t, c)
		mustHave(t, "new", h, api.Access{}, first(c))
		mustHaveMap(t, h, c)
	}
}

func TestNewByHand(t *testing.T) {
	h := made(t, api.Config{Cells: 3, Muts: 1, Regs: 1, Globs: 0})
	mustHave(t, "new", h, api.Access{}, []api.Word{1, 0, 0, 0, 0, 0, 0, 0, 3, 0, 0, 5, 0, 0, 0, 0})
}

func TestNewRefuses(t *testing.T) {
	for _, c := range wrong() {
		mustRefuse(t, fmt.Sprintf("New(%v)", c), api.ErrRange)(hand.New(c))
	}
}

func TestFrom(t *testing.T) {
	for _, c := range right() {
		for _, l := range [][]api.Word{mixed(sizeOf(c)), make([]api.Word, sizeOf(c)), first(c)} {
			h := from(t, c, l...)
			mustHave(t, "from", h, api.Access{}, l)
			mustHaveMap(t, h, c)
		}
	}
}

func TestFromOneByOne(t *testing.T) {
	h := from(t, least, 13, 12, 11, 10, 9, 8, 7, 6, 5, 4, last, 2, 1)
	mustHave(t, "from", h, api.Access{}, []api.Word{13, 12, 11, 10, 9, 8, 7, 6, 5, 4, last, 2, 1})
	mustRefuse(t, "From of none", api.ErrArg)(hand.From(least))
	mustRefuse(t, "From of one", api.ErrArg)(hand.From(least, 1))
	mustRefuse(t, "From of one fewer", api.ErrArg)(hand.From(least, 1, 2, 3, 4, 5, 6, 7, 8, 9, 10, 11, 12))
	mustRefuse(t, "From of one more", api.ErrArg)(hand.From(least, 1, 2, 3, 4, 5, 6, 7, 8, 9, 10, 11, 12, 13, 14))
}

func TestFromOfAnotherNumberOfWords(t *testing.T) {
	for _, c := range right() {
		size := sizeOf(c)
		for _, count := range []int{0, 1, 13, size / 2, size - 2, size - 1, size + 1, size + 2, 2 * size} {
			if count != size {
				mustRefuse(t, fmt.Sprintf("From(%v) of %d words", c, count), api.ErrArg)(hand.From(c, mixed(count)...))
			}
		}
		mustRefuse(t, "From of nil", api.ErrArg)(hand.From(c, nil...))
	}
}

// A configuration that isn't right is told ahead of the number of words, whatever that is.
func TestFromRefuses(t *testing.T) {
	for _, c := range wrong() {
		for _, count := range []int{0, 1, 4, 12, 13, 14, sizeOf(some), 8000} {
			mustRefuse(t, fmt.Sprintf("From(%v) of %d words", c, count), api.ErrRange)(hand.From(c, mixed(count)...))
		}
	}
}

// R4: what is handed in is kept by its values alone, and isn't changed; what lies behind it isn't either.
func TestRowHandedIn(t *testing.T) {
	size := sizeOf(some)
	memory := mixed(size + 3)
	words := slices.Clone(memory)
	h := from(t, some, memory[:size]...)
	for at := range size {
		h.Store(at, 7)
		h.Add(at, 1)
		h.Cas(at, 8, 9)
	}
	if !slices.Equal(memory, words) {
		t.Errorf("the row handed in is %v, not %v", memory, words)
	}
	h = from(t, some, memory[:size]...)
	clear(memory)
	mustHave(t, "row written over", h, api.Access{}, words[:size])
}

func TestHandsStayApart(t *testing.T) {
	l := mixed(sizeOf(least))
	a, b := from(t, least, l...), from(t, least, l...)
	c, d := made(t, least), made(t, least)
	a.Store(2, 8)
	c.Add(3, 5)
	mustHave(t, "the other one", b, api.Access{}, l)
	mustHave(t, "the other one", d, api.Access{}, first(least))
}

// P7.2

func TestCallsByHand(t *testing.T) {
	h := made(t, least)
	l := first(least)
	for _, x := range []api.Access{
		{Kind: api.AStore, At: 6, X: 3},
		{Kind: api.ALoad, At: 6},
		{Kind: api.ACas, At: 6, X: 3, Y: 4},
		{Kind: api.ACas, At: 6, X: 3, Y: 5},
		{Kind: api.ACas, At: 6, X: 4, Y: 4},
		{Kind: api.ACas, At: 6, X: 0, Y: 0},
		{Kind: api.AAdd, At: 6, X: last},
		{Kind: api.AAdd, At: 6},
		{Kind: api.AAdd, At: 6, X: 9},
		{Kind: api.ALoad, At: 12},
		{Kind: api.AStore, At: 0},
		{Kind: api.ALoad},
	} {
		mustDo(t, h, x, l)
	}
	mustHave(t, "at the end", h, api.Access{Kind: api.ALoad}, []api.Word{0, 0, 0, 0, 0, 0, 12, 0, 3, 0, 0, 0, 0})
}

// Each call at the first and the last place of each sort.
func TestCallsAtEachSortOfPlace(t *testing.T) {
	for _, c := range right() {
		l := mixed(sizeOf(c))
		h := from(t, c, l...)
		for _, at := range spots(c) {
			for _, kind := range kinds() {
				mustDo(t, h, api.Access{Kind: kind, At: at, X: l[at], Y: ^l[at]}, l)
				mustDo(t, h, api.Access{Kind: kind, At: at, X: l[at] + 1, Y: 5}, l)
			}
		}
	}
}

// Each call with all words, where each of them was.
func TestCallsOfAllWords(t *testing.T) {
	h := made(t, least)
	l := first(least)
	for _, kind := range kinds() {
		for _, was := range words() {
			for _, x := range words() {
				for _, y := range words() {
					l[9] = was
					h.Arena.Store(9, was)
					mustDo(t, h, api.Access{Kind: kind, At: 9, X: x, Y: y}, l)
				}
			}
		}
	}
}

func TestCas(t *testing.T) {
	h := made(t, least)
	if !h.Cas(api.AtGate, 0, 1) {
		t.Error("a cas from what is there doesn't win")
	}
	mustHave(t, "won", h, api.Access{Kind: api.ACas, At: 1, Y: 1}, with(first(least), 1, 1))
	if h.Cas(api.AtGate, 0, 2) {
		t.Error("a cas from what isn't there wins")
	}
	mustHave(t, "not won", h, api.Access{Kind: api.ACas, At: 1, Y: 2, Old: 1}, with(first(least), 1, 1))
}

func with(l []api.Word, at int, x api.Word) []api.Word {
	l[at] = x
	return l
}

func TestSumsGoRound(t *testing.T) {
	for _, c := range []struct{ was, x, sum api.Word }{
		{last, 1, 0}, {last, last, last - 1}, {3, last, 2}, {0, last, last}, {1 << 63, 1 << 63, 0}, {1<<63 - 1, 1, 1 << 63},
		{1<<32 - 1, 1, 1 << 32}, {last - 1, 3, 1}, {last, 0, last},
	} {
		h := from(t, least, with(first(least), api.AtNext, c.was)...)
		if got := h.Add(api.AtNext, c.x); got != c.was {
			t.Errorf("%d and %d: add tells %d", c.was, c.x, got)
		}
		want := api.Access{Kind: api.AAdd, At: api.AtNext, X: c.x, Old: c.was}
		mustHave(t, "add", h, want, with(first(least), api.AtNext, c.sum))
	}
}

// At a place that isn't there nothing is done, and the access of the call ahead is gone.
func TestPlacesThatAreNotThere(t *testing.T) {
	for _, c := range right() {
		l := mixed(sizeOf(c))
		h := from(t, c, l...)
		for _, at := range beyond(len(l)) {
			for _, kind := range kinds() {
				for _, x := range []api.Word{0, 1, last, l[0], l[len(l)-1]} {
					mustDoNothing(t, h, api.Access{Kind: kind, At: at, X: x, Y: ^x}, l)
				}
				h.Load(3)
				mustDoNothing(t, h, api.Access{Kind: kind, At: at}, l)
			}
		}
	}
}

// Calls one after the other, each held against a row of words that is changed by hand.
func TestOneAfterTheOther(t *testing.T) {
	l := mixed(sizeOf(some))
	h := from(t, some, l...)
	for i := range 3000 {
		at := i*7%(len(l)+2) - 1 // one place below, and one beyond
		x := api.Access{Kind: kinds()[i/3%len(kinds())], At: at, X: words()[i*11%len(words())], Y: words()[i*5%len(words())]}
		if at < 0 || at == len(l) {
			mustDoNothing(t, h, x, l)
			continue
		}
		if i%2 == 0 {
			x.X = l[at]
		}
		mustDo(t, h, x, l)
	}
}

func TestClear(t *testing.T) {
	h := made(t, some)
	l := first(some)
	h.Clear()
	mustHave(t, "at first", h, api.Access{}, l)
	for _, at := range append(spots(some), beyond(len(l))...) {
		for _, kind := range kinds() {
			x := api.Access{Kind: kind, At: at, X: 6, Y: 8}
			call(h, x)
			if at >= 0 && at < len(l) {
				l[at] = left(x, l[at])
			}
			h.Clear()
			mustHave(t, fmt.Sprintf("clear behind %+v", x), h, api.Access{}, l)
			h.Clear()
			mustHave(t, "twice", h, api.Access{}, l)
		}
	}
}

// The access is the last one alone, whatever stands there ahead of it.
func TestAccessIsWrittenOver(t *testing.T) {
	l := mixed(sizeOf(least))
	h := from(t, least, l...)
	for _, kind := range kinds() {
		h.Access = api.Access{Kind: 99, At: 98, X: 97, Y: 96, Old: 95}
		mustDo(t, h, api.Access{Kind: kind, At: 4, X: 2, Y: 3}, l)
		h.Access = api.Access{Kind: 99, At: 98, X: 97, Y: 96, Old: 95}
		mustDoNothing(t, h, api.Access{Kind: kind, At: len(l), X: 97, Y: 3}, l)
	}
}

// What an arena and a map can do, a hand can do, too.

type memory interface {
	Load(at int) api.Word
	Store(at int, x api.Word)
	Cas(at int, x, y api.Word) bool
	Add(at int, x api.Word) api.Word
	Do(x api.Access) (api.Access, bool)
	All() []api.Word
	Len() int
}

type places interface {
	In(i int) int
	Glob(g int) int
	Reg(i, r int) int
	Car(c int) int
	Cdr(c int) int
	Colour(c int) int
	Root(j int) int
	Size() int
	Name(at int) string
}

var (
	_ memory = (*arena.Arena)(nil)
	_ places = place.Map{}
)

func TestHandIsAMap(t *testing.T) {
	for _, c := range right() {
		var got, want places = made(t, c), place.Map{Config: c}
		if got.Size() != want.Size() {
			t.Errorf("%v: the size is %d", c, got.Size())
		}
		for i := -1; i <= c.Cells+c.Muts*c.Regs+c.Globs+1; i++ {
			a := []int{got.In(i), got.Glob(i), got.Reg(0, i), got.Reg(i, 0), got.Car(i), got.Cdr(i), got.Colour(i), got.Root(i)}
			b := []int{want.In(i), want.Glob(i), want.Reg(0, i), want.Reg(i, 0), want.Car(i), want.Cdr(i), want.Colour(i), want.Root(i)}
			if !slices.Equal(a, b) {
				t.Fatalf("%v: the places of %d are %v, not %v", c, i, a, b)
			}
		}
		for _, at := range append(spots(c), beyond(sizeOf(c))...) {
			if got.Name(at) != want.Name(at) {
				t.Errorf("%v: %d is called %q, not %q", c, at, got.Name(at), want.Name(at))
			}
		}
	}
}

func TestMapByHand(t *testing.T) {
	h := made(t, some)
	if h.Cells != 3 || h.Muts != 2 || h.Regs != 2 || h.Globs != 2 || h.Config != some {
		t.Errorf("the configuration is %v", h.Config)
	}
	if h.In(1) != 6 || h.Glob(0) != 7 || h.Reg(1, 0) != 11 || h.Car(1) != 16 || h.Cdr(0) != 14 || h.Colour(2) != 21 || h.Root(1) != 7 {
		t.Error("a place is another one")
	}
	if h.Size() != 22 || h.Len() != 22 || h.Name(11) != "reg 1 0" || h.Name(22) != "" {
		t.Error("how many places there are, or a place's name")
	}
}

func TestHandIsAnArena(t *testing.T) {
	for _, c := range right() {
		l := mixed(sizeOf(c))
		var m memory = from(t, c, l...)
		if m.Len() != len(l) || !slices.Equal(m.All(), l) {
			t.Errorf("%v: %d words: %v", c, m.Len(), m.All())
		}
		m.All()[0] = 5
		if !slices.Equal(m.All(), l) {
			t.Errorf("%v: an answer that is written over changes the hand", c)
		}
	}
}

// Only Load, Store, Cas and Add are the hand's own: the arena's Do is done, and not noted.
func TestDoIsNotNoted(t *testing.T) {
	h := made(t, least)
	l := first(least)
	mustDo(t, h, api.Access{Kind: api.AStore, At: 4, X: 9}, l)
	noted := h.Access
	for _, kind := range kinds() {
		x := api.Access{Kind: kind, At: 3, X: l[3], Y: 7, Old: 5}
		want := x
		want.Old = l[3]
		if got, ok := h.Do(x); !ok || got != want {
			t.Errorf("do of %+v tells %+v, %v", x, got, ok)
		}
		l[3] = left(x, l[3])
		mustHave(t, "do", h, noted, l)
	}
	if got, ok := h.Do(api.Access{Kind: api.ALoad, At: 13}); ok || got != (api.Access{}) {
		t.Errorf("do at a place that isn't there tells %+v, %v", got, ok)
	}
	mustHave(t, "do at a place that isn't there", h, noted, l)
}

// What only asks leaves the access as it is.
func TestAskingIsNotNoted(t *testing.T) {
	h := made(t, some)
	l := first(some)
	mustDo(t, h, api.Access{Kind: api.ACas, At: 2, Y: 6}, l)
	noted := h.Access
	h.All()
	h.Len()
	h.Size()
	h.Name(3)
	h.Car(1)
	h.Root(0)
	h.Field(1, 0)
	h.Field(2, 9)
	h.Arena.Load(4)
	mustHave(t, "behind questions", h, noted, l)
}

// P7.3

// parts are the numbers of the parts of a cell; noParts are numbers that none has.
func parts() []int {
	return []int{0, 1, 2}
}

func noParts() []int {
	return []int{
		-1, -2, -3, 3, 4, 5, 255, 256, 1 << 32, 1<<32 + 1, 1<<32 + 2, -1 << 32, 1 << 62,
		math.MinInt, math.MinInt + 1, math.MinInt + 2, math.MaxInt - 1, math.MaxInt,
	}
}

func mustField(t *testing.T, h *hand.Hand, w api.Word, part, want int) {
	t.Helper()
	if got := h.Field(w, part); got != want {
		t.Fatalf("%v: part %d of the word %d is at %d, not %d", h.Config, part, w, got, want)
	}
}

func TestField(t *testing.T) {
	for _, c := range right() {
		h := made(t, c)
		for i := range c.Cells {
			w := api.Word(2*i + 1)
			for _, part := range parts() {
				mustField(t, h, w, part, firstCell(c)+3*i+part)
			}
			for _, part := range noParts() {
				mustField(t, h, w, part, -1)
			}
		}
	}
}

func TestFieldByHand(t *testing.T) {
	h := made(t, least)
	for i, want := range []int{7, 8, 9} {
		mustField(t, h, 1, i, want)
		mustField(t, h, 3, i, want+3)
		mustField(t, h, 5, i, -1)
		mustField(t, h, 2, i, -1)
	}
	if h.Field(3, 0) != h.Car(1) || h.Field(3, 1) != h.Cdr(1) || h.Field(3, 2) != h.Colour(1) {
		t.Error("the fields of the cell 1 are other places than the map's")
	}
}

// Atoms, words that are neither, and cells that the map doesn't have.
func TestFieldOfNoCell(t *testing.T) {
	for _, c := range right() {
		h := made(t, c)
		beyond := api.Word(2*c.Cells + 1)
		l := []api.Word{
			0, 2, 4, 6, 8190, 8192, 8194, 1 << 32, 1<<63 - 2, 1 << 63, last - 1,
			beyond, beyond + 2, 8193, 8195, 1<<32 + 1, 1<<32 + 3, 1<<63 - 1, 1<<63 + 1, 1<<63 + 3, last - 2, last,
		}
		if c.Cells < api.MaxCells {
			l = append(l, 8191)
		}
		for _, w := range l {
			for _, part := range append(parts(), noParts()...) {
				mustField(t, h, w, part, -1)
			}
		}
	}
}

// What is in memory plays no part.
func TestFieldOfOtherWords(t *testing.T) {
	h := from(t, some, mixed(sizeOf(some))...)
	for i := range some.Cells {
		for _, part := range parts() {
			mustField(t, h, api.Word(2*i+1), part, firstCell(some)+3*i+part)
		}
	}
}

// P7.4

func TestNilHand(t *testing.T) {
	var h *hand.Hand
	for _, at := range append(beyond(0), 0, 1, 2, 12) {
		for _, kind := range kinds() {
			for _, x := range words() {
				if got := call(h, api.Access{Kind: kind, At: at, X: x, Y: ^x}); got != (told{}) {
					t.Fatalf("a nil hand: kind %d at %d of %d tells %+v", kind, at, x, got)
				}
			}
		}
	}
	for _, w := range words() {
		for _, part := range append(parts(), noParts()...) {
			if got := h.Field(w, part); got != -1 {
				t.Fatalf("a nil hand: part %d of %d is at %d", part, w, got)
			}
		}
	}
	h.Clear()
	if h != nil {
		t.Error("a nil hand is none any more")
	}
}

// A zero hand has a nil arena and an empty map: no places.
func TestZeroHand(t *testing.T) {
	var h hand.Hand
	for _, at := range append(beyond(0), 0, 1, 12) {
		for _, kind := range kinds() {
			mustDoNothing(t, &h, api.Access{Kind: kind, At: at, X: 3}, nil)
			mustDoNothing(t, &h, api.Access{Kind: kind, At: at}, nil)
		}
	}
	for _, part := range append(parts(), noParts()...) {
		mustField(t, &h, 1, part, -1)
	}
	h.Clear()
	mustHave(t, "clear", &h, api.Access{}, nil)
}

// P1, and each answer at all arguments.
func FuzzCalls(f *testing.F) {
	f.Add(2, 0, api.ALoad, 0, uint64(1), uint64(2), 0)
	f.Add(4, 2, api.ACas, 5, uint64(0), uint64(math.MaxUint64), 2)
	f.Add(9, 64, api.AAdd, -1, uint64(math.MaxUint64), uint64(1), 3)
	f.Add(1, -1, api.AStore, math.MinInt, uint64(7), uint64(1<<63), math.MaxInt)
	f.Fuzz(func(t *testing.T, cells, globs, kind, at int, x, y uint64, part int) {
		c := api.Config{Cells: cells, Muts: 2, Regs: 3, Globs: globs}
		if cells < 2 || cells > 4096 || globs < 0 || globs > 64 {
			mustRefuse(t, "New", api.ErrRange)(hand.New(c))
			mustRefuse(t, "From", api.ErrRange)(hand.From(c, 1, 2))
			return
		}
		l := mixed(sizeOf(c))
		h := from(t, c, l...)
		field := -1
		if x%2 == 1 && x/2 < uint64(cells) && part >= 0 && part <= 2 {
			field = firstCell(c) + 3*int(x/2) + part
		}
		mustField(t, h, api.Word(x), part, field)
		do := api.Access{Kind: kind, At: at, X: api.Word(x), Y: api.Word(y)}
		switch {
		case !slices.Contains(kinds(), kind):
			mustHave(t, "no call", h, api.Access{}, l)
		case at < 0 || at >= len(l):
			mustDoNothing(t, h, do, l)
		default:
			mustDo(t, h, do, l)
		}
	})
}
