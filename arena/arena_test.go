package arena_test

import (
	"math"
	"slices"
	"testing"

	"mudlark/api"
	"mudlark/arena"
)

const last = api.Word(math.MaxUint64)

// words are words at both ends, at the ends of signed numbers, of half a word, and some between.
func words() []api.Word {
	return []api.Word{0, 1, 2, 3, 7, 4095, 1<<31 - 1, 1 << 31, 1<<32 - 1, 1 << 32, 1<<63 - 1, 1 << 63, 1<<63 + 1, last - 1, last}
}

// rows are the words of arenas: of none, of one, and of several.
func rows() [][]api.Word {
	return [][]api.Word{
		nil, {}, {0}, {5}, {last}, {1 << 63, 0}, {5, 5, 5}, {1, 2, 3, 4}, words(),
	}
}

// beyond are places that aren't there in an arena of so many words.
func beyond(count int) []int {
	return []int{
		math.MinInt, math.MinInt + 1, math.MinInt + count, -1 << 32, -count - 1, -2, -1,
		count, count + 1, 2*count + 2, 1 << 32, 1<<32 + count, 1 << 62, math.MaxInt - count, math.MaxInt - 1, math.MaxInt,
	}
}

// kinds are the accesses that there are; noKinds are numbers that no access has.
func kinds() []int {
	return []int{api.ALoad, api.AStore, api.ACas, api.AAdd}
}

func noKinds() []int {
	return []int{0, -1, -2, -3, -4, 5, 6, 255, 257, 1<<32 + 1, 1<<32 + 2, math.MinInt, math.MinInt + 1, math.MinInt + 4, math.MaxInt - 1, math.MaxInt}
}

// left is what an access leaves at its place, as the chapter says it.
func left(x api.Access, was api.Word) api.Word {
	switch x.Kind {
	case api.AStore:
		return x.X
	case api.ACas:
		if was == x.X {
			return x.Y
		}
	case api.AAdd:
		// By halves and a carry, so that the sum isn't worked out as the package does it.
		low := was&(1<<32-1) + x.X&(1<<32-1)
		high := was>>32 + x.X>>32 + low>>32
		return high<<32 | low&(1<<32-1)
	}
	return was
}

// with is a row in which one word is another one.
func with(l []api.Word, at int, x api.Word) []api.Word {
	l = slices.Clone(l)
	l[at] = x
	return l
}

func mustHave(t *testing.T, what string, a *arena.Arena, want []api.Word) {
	t.Helper()
	if got := a.All(); !slices.Equal(got, want) {
		t.Fatalf("%s: all words are %v, not %v", what, got, want)
	}
	if got := a.Len(); got != len(want) {
		t.Fatalf("%s: %d words, not %d", what, got, len(want))
	}
	for at, x := range want {
		if got := a.Load(at); got != x {
			t.Fatalf("%s: at %d is %d, not %d", what, at, got, x)
		}
	}
}

// The chapter's example.
func TestExample(t *testing.T) {
	a := arena.New(5)
	if got := a.Add(0, 2); got != 5 {
		t.Errorf("add tells %d", got)
	}
	mustHave(t, "behind add", a, []api.Word{7})
}

// P5.1

func TestNew(t *testing.T) {
	for _, l := range rows() {
		a := arena.New(l...)
		if a == nil {
			t.Fatalf("no arena of %v", l)
		}
		mustHave(t, "new", a, l)
	}
	mustHave(t, "of no word", arena.New(), nil)
	mustHave(t, "of three words", arena.New(4, last, 4), []api.Word{4, last, 4})
}

func TestStore(t *testing.T) {
	for _, l := range rows() {
		for at := range l {
			for _, x := range words() {
				a := arena.New(l...)
				a.Store(at, x)
				mustHave(t, "store", a, with(l, at, x))
			}
		}
	}
}

func TestCas(t *testing.T) {
	for _, l := range rows() {
		for at := range l {
			for _, x := range append(words(), l[at]) {
				for _, y := range append(words(), x, l[at]) {
					a := arena.New(l...)
					want := with(l, at, l[at])
					if x == l[at] {
						want[at] = y
					}
					if got := a.Cas(at, x, y); got != (x == l[at]) {
						t.Fatalf("cas at %d of %v from %d to %d tells %v", at, l, x, y, got)
					}
					mustHave(t, "cas", a, want)
				}
			}
		}
	}
}

// A cas of two alike words changes nothing, yet tells whether that word is there.
func TestCasOfAlikeWords(t *testing.T) {
	a := arena.New(3, 8)
	if !a.Cas(0, 3, 3) || a.Cas(0, 8, 8) || a.Cas(1, 3, 3) || !a.Cas(1, 8, 8) {
		t.Error("a cas of two alike words tells something else")
	}
	mustHave(t, "cas", a, []api.Word{3, 8})
}

// The second cas finds what the first one left.
func TestCasTwice(t *testing.T) {
	a := arena.New(0)
	if !a.Cas(0, 0, last) || a.Cas(0, 0, 1) || !a.Cas(0, last, 1) {
		t.Error("a cas doesn't find what the one ahead left")
	}
	mustHave(t, "cas", a, []api.Word{1})
}

func TestAdd(t *testing.T) {
	for _, l := range rows() {
		for at := range l {
			for _, x := range words() {
				a := arena.New(l...)
				if got := a.Add(at, x); got != l[at] {
					t.Fatalf("add at %d of %v of %d tells %d", at, l, x, got)
				}
				mustHave(t, "add", a, with(l, at, left(api.Access{Kind: api.AAdd, X: x}, l[at])))
			}
		}
	}
}

func TestSumsGoRound(t *testing.T) {
	for _, c := range []struct{ was, x, sum api.Word }{
		{last, 1, 0}, {last, last, last - 1}, {3, last, 2}, {0, last, last}, {1 << 63, 1 << 63, 0}, {1<<63 - 1, 1, 1 << 63},
		{1<<32 - 1, 1, 1 << 32}, {last - 1, 3, 1}, {last, 0, last},
	} {
		a := arena.New(0, c.was, 0)
		if got := a.Add(1, c.x); got != c.was {
			t.Errorf("%d and %d: add tells %d", c.was, c.x, got)
		}
		mustHave(t, "add", a, []api.Word{0, c.sum, 0})
	}
}

// mustHaveNone holds each call at a place that isn't there against what the chapter asks.
func mustHaveNone(t *testing.T, a *arena.Arena, at int) {
	t.Helper()
	want := a.All()
	for _, x := range append(words(), want...) {
		if got := a.Load(at); got != 0 {
			t.Fatalf("load at %d tells %d", at, got)
		}
		a.Store(at, x)
		if a.Cas(at, x, ^x) || a.Cas(at, x, x) || a.Cas(at, 0, x) {
			t.Fatalf("cas at %d tells true", at)
		}
		if got := a.Add(at, x); got != 0 {
			t.Fatalf("add at %d tells %d", at, got)
		}
		for _, kind := range append(kinds(), noKinds()...) {
			refused(t, a, api.Access{Kind: kind, At: at, X: x, Y: ^x, Old: 9})
		}
	}
	mustHave(t, "at a place that isn't there", a, want)
}

func TestPlacesThatAreNotThere(t *testing.T) {
	for _, l := range rows() {
		a := arena.New(l...)
		for _, at := range beyond(len(l)) {
			mustHaveNone(t, a, at)
		}
		mustHave(t, "at places that aren't there", a, l)
	}
}

// P5.2

func refused(t *testing.T, a *arena.Arena, x api.Access) {
	t.Helper()
	if got, ok := a.Do(x); ok || got != (api.Access{}) {
		t.Fatalf("do of %v tells %v, %v", x, got, ok)
	}
}

func mustDo(t *testing.T, a *arena.Arena, x api.Access, was api.Word) {
	t.Helper()
	want := x
	want.Old = was
	if got, ok := a.Do(x); !ok || got != want {
		t.Fatalf("do of %v tells %v, %v, not %v", x, got, ok, want)
	}
}

func TestDoByHand(t *testing.T) {
	a := arena.New(5, 6)
	for _, c := range []struct {
		x    api.Access
		was  api.Word
		then api.Word
	}{
		{api.Access{Kind: 1, At: 1, X: 4, Y: 3, Old: 2}, 6, 6},
		{api.Access{Kind: 2, At: 1, X: 4, Y: 3, Old: 2}, 6, 4},
		{api.Access{Kind: 3, At: 1, X: 5, Y: 3, Old: 5}, 4, 4},
		{api.Access{Kind: 3, At: 1, X: 4, Y: 3, Old: 5}, 4, 3},
		{api.Access{Kind: 3, At: 1, X: 3, Y: 3}, 3, 3},
		{api.Access{Kind: 3, At: 1, X: 9, Y: 9}, 3, 3},
		{api.Access{Kind: 4, At: 1, X: 9, Y: 1}, 3, 12},
		{api.Access{Kind: 4, At: 1, X: last, Y: 1, Old: last}, 12, 11},
		{api.Access{Kind: 4, At: 1, X: last - 10}, 11, 0},
		{api.Access{Kind: 1, At: 1, Old: 77}, 0, 0},
	} {
		mustDo(t, a, c.x, c.was)
		mustHave(t, "do", a, []api.Word{5, c.then})
	}
}

func TestDo(t *testing.T) {
	for _, l := range rows() {
		for at := range l {
			for _, kind := range kinds() {
				for _, x := range append(words(), l[at]) {
					for _, y := range append(words(), l[at]) {
						a := arena.New(l...)
						do := api.Access{Kind: kind, At: at, X: x, Y: y, Old: y + 1}
						mustDo(t, a, do, l[at])
						mustHave(t, "do", a, with(l, at, left(do, l[at])))
					}
				}
			}
		}
	}
}

func TestDoOfNoKind(t *testing.T) {
	for _, l := range rows() {
		a := arena.New(l...)
		for _, kind := range noKinds() {
			for at := range l {
				for _, x := range append(words(), l[at]) {
					refused(t, a, api.Access{Kind: kind, At: at, X: x, Y: ^x, Old: 3})
					refused(t, a, api.Access{Kind: kind, At: at, X: l[at], Y: x})
				}
			}
		}
		refused(t, a, api.Access{})
		mustHave(t, "do of no kind", a, l)
	}
}

// P5.3

// Calls one after the other, each held against a row of words that is changed by hand, in one place at a time.
func TestOtherWordsStay(t *testing.T) {
	l := []api.Word{1, last, 0, 1 << 63, 5}
	a := arena.New(l...)
	for i := range 2000 {
		at := i * 7 % len(l)
		x := words()[i*11%len(words())]
		y := words()[i*5%len(words())]
		if i%3 == 0 {
			x = l[at]
		}
		do := api.Access{Kind: kinds()[i/2%len(kinds())], At: at, X: x, Y: y}
		if i%2 == 0 {
			mustDo(t, a, do, l[at])
		} else {
			call(a, do)
		}
		l[at] = left(do, l[at])
		mustHave(t, "one after the other", a, l)
	}
}

// call does an access by its own call.
func call(a *arena.Arena, x api.Access) {
	switch x.Kind {
	case api.ALoad:
		a.Load(x.At)
	case api.AStore:
		a.Store(x.At, x.X)
	case api.ACas:
		a.Cas(x.At, x.X, x.Y)
	case api.AAdd:
		a.Add(x.At, x.X)
	}
}

func TestArenasStayApart(t *testing.T) {
	l := []api.Word{1, 2}
	a, b := arena.New(l...), arena.New(l...)
	a.Store(0, 8)
	b.Add(1, 8)
	mustHave(t, "the one", a, []api.Word{8, 2})
	mustHave(t, "the other", b, []api.Word{1, 10})
}

func TestNilArena(t *testing.T) {
	var a *arena.Arena
	mustHave(t, "nil", a, nil)
	for _, at := range append(beyond(0), 0, 1, 2) {
		mustHaveNone(t, a, at)
	}
}

// A zero arena is one of no words.
func TestZeroArena(t *testing.T) {
	var a arena.Arena
	mustHave(t, "zero", &a, nil)
	for _, at := range beyond(0) {
		mustHaveNone(t, &a, at)
	}
}

// R4: what is handed in is kept by its values alone, and isn't changed.
func TestRowHandedIn(t *testing.T) {
	memory := []api.Word{1, 2, 3, 4, 5}
	a := arena.New(memory[:3]...)
	memory[0], memory[2] = 8, 9
	mustHave(t, "row written over", a, []api.Word{1, 2, 3})
	a.Store(0, 6)
	a.Cas(1, 2, 7)
	a.Add(2, 1)
	a.Do(api.Access{Kind: api.AStore, At: 3, X: 1})
	if !slices.Equal(memory, []api.Word{8, 2, 9, 4, 5}) {
		t.Errorf("the row handed in is %v", memory)
	}
}

// R4: what is answered is new.
func TestAllIsNew(t *testing.T) {
	a := arena.New(1, 2, 3)
	first := a.All()
	first[0], first[2] = 8, 9
	_ = append(first[:1], 7, 7, 7, 7)
	mustHave(t, "answer written over", a, []api.Word{1, 2, 3})
	second := a.All()
	third := a.All()
	second[1] = 5
	a.Store(0, 6)
	if !slices.Equal(third, []api.Word{1, 2, 3}) {
		t.Errorf("an answer that was kept is %v", third)
	}
	mustHave(t, "behind store", a, []api.Word{6, 2, 3})
}

// P1, and each answer at all arguments.
func FuzzDo(f *testing.F) {
	f.Add(3, api.ALoad, 0, uint64(1), uint64(2))
	f.Add(1, api.ACas, 0, uint64(0), uint64(math.MaxUint64))
	f.Add(0, api.AAdd, -1, uint64(math.MaxUint64), uint64(1))
	f.Add(2, math.MaxInt, math.MinInt, uint64(7), uint64(1<<63))
	f.Fuzz(func(t *testing.T, count, kind, at int, x, y uint64) {
		l := make([]api.Word, max(0, min(count, 9)))
		for i := range l {
			l[i] = api.Word(x) + api.Word(i)*api.Word(y)
		}
		a := arena.New(l...)
		do := api.Access{Kind: kind, At: at, X: api.Word(x), Y: api.Word(y), Old: api.Word(^x)}
		if at < 0 || at >= len(l) {
			mustHaveNone(t, a, at)
			return
		}
		if !slices.Contains(kinds(), kind) {
			refused(t, a, do)
			mustHave(t, "fuzz", a, l)
			return
		}
		mustDo(t, a, do, l[at])
		mustHave(t, "fuzz", a, with(l, at, left(do, l[at])))
	})
}
