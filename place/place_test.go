package place_test

import (
	"fmt"
	"math"
	"slices"
	"testing"

	"mudlark/api"
	"mudlark/config"
	"mudlark/place"
)

var (
	least = api.Config{Cells: 2, Muts: 1, Regs: 1, Globs: 0}
	most  = api.Config{Cells: 4096, Muts: 63, Regs: 64, Globs: 64}
)

// right are configurations with each number at either end, the others at either end too, and some between.
func right() []api.Config {
	l := []api.Config{
		{Cells: 3, Muts: 2, Regs: 2, Globs: 1}, {Cells: 3, Muts: 5, Regs: 7, Globs: 11}, {Cells: 100, Muts: 7, Regs: 5, Globs: 0},
	}
	for _, cells := range []int{2, 4096} {
		for _, muts := range []int{1, 63} {
			for _, regs := range []int{1, 64} {
				for _, globs := range []int{0, 64} {
					l = append(l, api.Config{Cells: cells, Muts: muts, Regs: regs, Globs: globs})
				}
			}
		}
	}
	return l
}

// wrong are configurations that aren't right: in one number, the others at either end, and in all.
func wrong() []api.Config {
	l := []api.Config{{}}
	for _, n := range []int{-1, -2, 5000, 1 << 32, 1<<32 + 2, 1 << 62, math.MinInt, math.MinInt + 2, math.MaxInt - 1, math.MaxInt} {
		l = append(l, api.Config{Cells: n, Muts: n, Regs: n, Globs: n})
		for _, c := range []api.Config{least, most} {
			l = append(l,
				api.Config{Cells: n, Muts: c.Muts, Regs: c.Regs, Globs: c.Globs},
				api.Config{Cells: c.Cells, Muts: n, Regs: c.Regs, Globs: c.Globs},
				api.Config{Cells: c.Cells, Muts: c.Muts, Regs: n, Globs: c.Globs},
				api.Config{Cells: c.Cells, Muts: c.Muts, Regs: c.Regs, Globs: n})
		}
	}
	for _, c := range []api.Config{least, most} {
		l = append(l,
			api.Config{Cells: 1, Muts: c.Muts, Regs: c.Regs, Globs: c.Globs}, api.Config{Cells: 4097, Muts: c.Muts, Regs: c.Regs, Globs: c.Globs},
			api.Config{Cells: c.Cells, Muts: 0, Regs: c.Regs, Globs: c.Globs}, api.Config{Cells: c.Cells, Muts: 64, Regs: c.Regs, Globs: c.Globs},
			api.Config{Cells: c.Cells, Muts: c.Muts, Regs: 0, Globs: c.Globs}, api.Config{Cells: c.Cells, Muts: c.Muts, Regs: 65, Globs: c.Globs},
			api.Config{Cells: c.Cells, Muts: c.Muts, Regs: c.Regs, Globs: 65})
	}
	return l
}

// names are the names of all places, as the chapter goes through them.
func names(c api.Config) []string {
	l := []string{"free", "gate", "dirty", "next", "serve"}
	for i := range c.Muts {
		l = append(l, fmt.Sprintf("in %d", i))
	}
	for g := range c.Globs {
		l = append(l, fmt.Sprintf("glob %d", g))
	}
	for i := range c.Muts {
		for r := range c.Regs {
			l = append(l, fmt.Sprintf("reg %d %d", i, r))
		}
	}
	for i := range c.Cells {
		l = append(l, fmt.Sprintf("car %d", i), fmt.Sprintf("cdr %d", i), fmt.Sprintf("colour %d", i))
	}
	return l
}

// places are all places by their names.
func places(c api.Config) map[string]int {
	at := map[string]int{}
	for i, name := range names(c) {
		at[name] = i
	}
	return at
}

// outside are numbers below 0, and from a count on: what is there just so often has none of them.
func outside(count int) []int {
	return []int{
		-1, -2, -count, -count - 1, -4096, -1 << 32, math.MinInt, math.MinInt + 1, math.MinInt + count,
		count, count + 1, 2*count + 1, 5000, 20000, 1 << 32, 1<<62 - 1, 1 << 62, math.MaxInt - 1, math.MaxInt,
		// These come round to small places, if they are multiplied by three or by the number of registers.
		math.MaxInt/3 + 1, math.MinInt / 3, math.MaxInt/2 + 1, math.MinInt / 2, 1 << 58, 1<<58 + 1, math.MinInt / 64,
	}
}

// made are the maps of a configuration: by New, and without it.
func made(t *testing.T, c api.Config) []place.Map {
	t.Helper()
	m, e := place.New(c)
	if e != api.OK || m.Config != c {
		t.Fatalf("New(%v) = %v, %d", c, m, e)
	}
	return []place.Map{m, {Config: c}}
}

// call is one of the calls that tell the place of a number, and how many there are.
type call struct {
	name  string
	at    func(m place.Map, i int) int
	count func(c api.Config) int
}

func calls() []call {
	cells := func(c api.Config) int { return c.Cells }
	return []call{
		{"in", place.Map.In, func(c api.Config) int { return c.Muts }},
		{"glob", place.Map.Glob, func(c api.Config) int { return c.Globs }},
		{"car", place.Map.Car, cells},
		{"cdr", place.Map.Cdr, cells},
		{"colour", place.Map.Colour, cells},
	}
}

func checkPlace(t *testing.T, c api.Config, name string, at, want int) {
	t.Helper()
	if at != want {
		t.Errorf("%v: %s is %d, not %d", c, name, at, want)
	}
}

// P4.1

func TestExample(t *testing.T) {
	for _, m := range made(t, least) {
		checkPlace(t, least, "in 0", m.In(0), 5)
		checkPlace(t, least, "reg 0 0", m.Reg(0, 0), 6)
		checkPlace(t, least, "car 0", m.Car(0), 7)
		checkPlace(t, least, "colour 1", m.Colour(1), 12)
		checkPlace(t, least, "size", m.Size(), 13)
	}
}

func TestNewRefuses(t *testing.T) {
	for _, c := range wrong() {
		if m, e := place.New(c); m != (place.Map{}) || e != api.ErrRange {
			t.Errorf("New(%v) = %v, %d", c, m, e)
		}
	}
}

// A configuration's fields are the map's own.
func TestFields(t *testing.T) {
	for _, c := range right() {
		for _, m := range made(t, c) {
			if m.Cells != c.Cells || m.Muts != c.Muts || m.Regs != c.Regs || m.Globs != c.Globs {
				t.Errorf("%v has the fields %d, %d, %d, %d", c, m.Cells, m.Muts, m.Regs, m.Globs)
			}
		}
	}
}

func TestPlacesOfOneNumber(t *testing.T) {
	for _, c := range right() {
		at := places(c)
		for _, m := range made(t, c) {
			for _, f := range calls() {
				for i := range f.count(c) {
					name := fmt.Sprintf("%s %d", f.name, i)
					checkPlace(t, c, name, f.at(m, i), at[name])
				}
				for _, i := range outside(f.count(c)) {
					checkPlace(t, c, fmt.Sprintf("%s %d", f.name, i), f.at(m, i), -1)
				}
			}
		}
	}
}

func TestRegisters(t *testing.T) {
	for _, c := range right() {
		at := places(c)
		for _, m := range made(t, c) {
			for i := range c.Muts {
				for r := range c.Regs {
					name := fmt.Sprintf("reg %d %d", i, r)
					checkPlace(t, c, name, m.Reg(i, r), at[name])
				}
			}
			checkNoRegisters(t, m)
		}
	}
}

// checkNoRegisters: neither of the two numbers may be outside, whatever the other one is.
func checkNoRegisters(t *testing.T, m place.Map) {
	t.Helper()
	none := func(i, r int) {
		t.Helper()
		checkPlace(t, m.Config, fmt.Sprintf("reg %d %d", i, r), m.Reg(i, r), -1)
	}
	for _, i := range outside(m.Muts) {
		for r := range m.Regs {
			none(i, r)
		}
		for _, r := range outside(m.Regs) {
			none(i, r)
		}
	}
	for _, r := range outside(m.Regs) {
		for i := range m.Muts {
			none(i, r)
		}
	}
}

func TestRoots(t *testing.T) {
	for _, c := range right() {
		for _, m := range made(t, c) {
			want := []int{api.AtFree}
			for g := range c.Globs {
				want = append(want, m.Glob(g))
			}
			for i := range c.Muts {
				for r := range c.Regs {
					want = append(want, m.Reg(i, r))
				}
			}
			if !slices.IsSorted(want) || len(want) != config.Roots(c) {
				t.Errorf("%v has the roots %v", c, want)
			}
			for j, at := range want {
				checkPlace(t, c, fmt.Sprintf("root %d", j), m.Root(j), at)
			}
			for _, j := range outside(len(want)) {
				checkPlace(t, c, fmt.Sprintf("root %d", j), m.Root(j), -1)
			}
		}
	}
}

func TestRootsByHand(t *testing.T) {
	for _, k := range []struct {
		c         api.Config
		j, at, of int
	}{
		{least, 0, 0, 2}, {least, 1, 6, 2}, {least, 2, -1, 2},
		{api.Config{Cells: 3, Muts: 2, Regs: 2, Globs: 1}, 1, 7, 6}, {api.Config{Cells: 3, Muts: 2, Regs: 2, Globs: 1}, 2, 8, 6},
		{api.Config{Cells: 3, Muts: 2, Regs: 2, Globs: 1}, 5, 11, 6}, {api.Config{Cells: 3, Muts: 2, Regs: 2, Globs: 1}, 6, -1, 6},
		{most, 1, 68, 4097}, {most, 64, 131, 4097}, {most, 65, 132, 4097}, {most, 4096, 4163, 4097}, {most, 4097, -1, 4097},
	} {
		checkPlace(t, k.c, fmt.Sprintf("root %d", k.j), place.Map{Config: k.c}.Root(k.j), k.at)
		checkPlace(t, k.c, "roots", config.Roots(k.c), k.of)
	}
}

func TestSize(t *testing.T) {
	for _, c := range right() {
		for _, m := range made(t, c) {
			if m.Size() != len(names(c)) || m.Size() != config.Words(c) {
				t.Errorf("%v has %d places", c, m.Size())
			}
		}
	}
}

// A map that was made without New, of what isn't right, has no place.
func TestMapsThatAreNotRight(t *testing.T) {
	numbers := append(outside(1), 0, 1, 2, 3, 4, 5, 6, 7, 12, 13, 62, 63, 64, 65)
	for _, c := range wrong() {
		m := place.Map{Config: c}
		checkPlace(t, c, "size", m.Size(), 0)
		for _, i := range numbers {
			checkPlace(t, c, fmt.Sprintf("root %d", i), m.Root(i), -1)
			for _, f := range calls() {
				checkPlace(t, c, fmt.Sprintf("%s %d", f.name, i), f.at(m, i), -1)
			}
			for _, r := range numbers {
				checkPlace(t, c, fmt.Sprintf("reg %d %d", i, r), m.Reg(i, r), -1)
			}
			if s := m.Name(i); s != "" {
				t.Errorf("%v: %d has the name %q", c, i, s)
			}
		}
	}
}

// A map is a value: what was asked of another one, or ahead of a change of its fields, is of no weight.
func TestMapsThatChange(t *testing.T) {
	m := place.Map{Config: most}
	checkPlace(t, m.Config, "car 0", m.Car(0), 4164)
	m.Config = least
	checkPlace(t, m.Config, "car 0", m.Car(0), 7)
	m.Globs = 2
	checkPlace(t, m.Config, "car 0", m.Car(0), 9)
	m.Globs = 65
	checkPlace(t, m.Config, "car 0", m.Car(0), -1)
	m.Globs = 0
	checkPlace(t, m.Config, "car 0", m.Car(0), 7)
}

// P4.2

func TestNames(t *testing.T) {
	for _, c := range right() {
		for _, m := range made(t, c) {
			for at, want := range names(c) {
				if s := m.Name(at); s != want {
					t.Errorf("%v: %d has the name %q, not %q", c, at, s, want)
				}
			}
			for _, at := range outside(m.Size()) {
				// Some of these lie inside a greater memory.
				if at >= 0 && at < m.Size() {
					continue
				}
				if s := m.Name(at); s != "" {
					t.Errorf("%v: %d has the name %q", c, at, s)
				}
			}
		}
	}
}

func TestNamesByHand(t *testing.T) {
	m := place.Map{Config: api.Config{Cells: 3, Muts: 2, Regs: 2, Globs: 1}}
	for at, want := range []string{
		"free", "gate", "dirty", "next", "serve", "in 0", "in 1", "glob 0", "reg 0 0", "reg 0 1", "reg 1 0", "reg 1 1",
		"car 0", "cdr 0", "colour 0", "car 1", "cdr 1", "colour 1", "car 2", "cdr 2", "colour 2", "",
	} {
		if s := m.Name(at); s != want {
			t.Errorf("%d has the name %q, not %q", at, s, want)
		}
	}
	for _, k := range []struct {
		at   int
		name string
	}{
		{67, "in 62"}, {68, "glob 0"}, {131, "glob 63"}, {132, "reg 0 0"}, {195, "reg 0 63"}, {196, "reg 1 0"}, {4163, "reg 62 63"},
		{4164, "car 0"}, {16451, "colour 4095"}, {16452, ""}, {-1, ""}, {math.MinInt, ""}, {math.MaxInt, ""},
	} {
		if s := (place.Map{Config: most}).Name(k.at); s != k.name {
			t.Errorf("%d has the name %q, not %q", k.at, s, k.name)
		}
	}
}

func TestFirst(t *testing.T) {
	for _, c := range right() {
		at := places(c)
		want := make([]api.Word, len(at))
		want[0] = 1
		for i := range c.Cells - 1 {
			want[at[fmt.Sprintf("cdr %d", i)]] = api.Word(2*(i+1) + 1)
		}
		if l := place.First(c); !slices.Equal(l, want) {
			t.Errorf("First(%v) = %v", c, l)
		}
	}
	for _, c := range wrong() {
		if l := place.First(c); len(l) != 0 {
			t.Errorf("First(%v) = %v", c, l)
		}
	}
}

func TestFirstByHand(t *testing.T) {
	for _, k := range []struct {
		c api.Config
		l []api.Word
	}{
		{least, []api.Word{1, 0, 0, 0, 0, 0, 0, 0, 3, 0, 0, 0, 0}},
		{api.Config{Cells: 3, Muts: 2, Regs: 1, Globs: 1}, []api.Word{1, 0, 0, 0, 0, 0, 0, 0, 0, 0, 0, 3, 0, 0, 5, 0, 0, 0, 0}},
	} {
		if l := place.First(k.c); !slices.Equal(l, k.l) {
			t.Errorf("First(%v) = %v", k.c, l)
		}
	}
}

// R4: an answer may be written over and grown, and nothing else changes by it.
func TestFirstAnswersNewLists(t *testing.T) {
	c := api.Config{Cells: 5, Muts: 2, Regs: 3, Globs: 1}
	a, b := place.First(c), place.First(c)
	for i := range a {
		a[i] = 7
	}
	a = append(a[:1], 9, 9, 9)
	if l := place.First(c); !slices.Equal(l, b) || l[0] != 1 || slices.Equal(l, a) {
		t.Errorf("%v, once %v", l, b)
	}
	m := place.Map{Config: c}
	if m.Name(0) != "free" || m.Size() != len(b) {
		t.Error(m.Name(0), m.Size())
	}
}

// P4.3

// Each place is told by just one call, and has a name of its own.
func TestEachPlaceOnce(t *testing.T) {
	for _, c := range right() {
		m := place.Map{Config: c}
		told := map[int]string{
			api.AtFree: "free", api.AtGate: "gate", api.AtDirty: "dirty", api.AtNext: "next", api.AtServe: "serve",
		}
		tell := func(at int, name string) {
			if other, ok := told[at]; ok {
				t.Errorf("%v: %d is %s and %s", c, at, other, name)
			}
			told[at] = name
		}
		for _, f := range calls() {
			for i := range f.count(c) {
				tell(f.at(m, i), fmt.Sprintf("%s %d", f.name, i))
			}
		}
		for i := range c.Muts {
			for r := range c.Regs {
				tell(m.Reg(i, r), fmt.Sprintf("reg %d %d", i, r))
			}
		}
		checkTold(t, m, told)
	}
}

func checkTold(t *testing.T, m place.Map, told map[int]string) {
	t.Helper()
	if len(told) != m.Size() {
		t.Errorf("%v: %d of %d places are told", m, len(told), m.Size())
	}
	met := map[string]bool{}
	for at := range m.Size() {
		s := m.Name(at)
		if s != told[at] || s == "" || met[s] {
			t.Errorf("%v: %d, which is %q, has the name %q", m, at, told[at], s)
		}
		met[s] = true
	}
}

// P1

func FuzzNumbers(f *testing.F) {
	f.Add(2, 1, 1, 0, 0, 0)
	f.Add(4096, 63, 64, 64, 62, 63)
	f.Add(4096, 63, 64, 64, 63, 64)
	f.Add(4097, 64, 65, 65, 0, 0)
	f.Add(3, 2, 2, 1, math.MinInt, math.MaxInt)
	f.Add(math.MaxInt, math.MinInt, -1, 0, 1, -1)
	f.Fuzz(func(t *testing.T, cells, muts, regs, globs, i, r int) {
		c := api.Config{Cells: cells, Muts: muts, Regs: regs, Globs: globs}
		m, e := place.New(c)
		if e != config.Check(c) || e == api.OK && m.Config != c || e != api.OK && m != (place.Map{}) {
			t.Errorf("New(%v) = %v, %d", c, m, e)
		}
		m.Config = c
		size := config.Words(c)
		if m.Size() != size || len(place.First(c)) != size {
			t.Errorf("%v has %d places, %d words", c, m.Size(), len(place.First(c)))
		}
		if (m.Name(i) != "") != (i >= 0 && i < size) {
			t.Errorf("%v: %d has the name %q", c, i, m.Name(i))
		}
		if at := m.Reg(i, r); at != -1 && m.Name(at) != fmt.Sprintf("reg %d %d", i, r) || at == -1 && size > 0 && i >= 0 && i < muts && r >= 0 && r < regs {
			t.Errorf("%v: reg %d %d is %d", c, i, r, at)
		}
		for _, f := range calls() {
			if at := f.at(m, i); at != -1 && m.Name(at) != fmt.Sprintf("%s %d", f.name, i) || at == -1 && size > 0 && i >= 0 && i < f.count(c) {
				t.Errorf("%v: %s %d is %d", c, f.name, i, at)
			}
		}
		if at := m.Root(i); (at != -1) != (i >= 0 && i < config.Roots(c)) || at >= size {
			t.Errorf("%v: root %d is %d", c, i, at)
		}
	})
}
