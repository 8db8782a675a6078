package config_test

import (
	"math"
	"strconv"
	"strings"
	"testing"

	"mudlark/api"
	"mudlark/config"
)

var (
	least = api.Config{Cells: 2, Muts: 1, Regs: 1, Globs: 0}
	most  = api.Config{Cells: 4096, Muts: 63, Regs: 64, Globs: 64}
)

// known are right configurations, with all that is told of them, worked out by hand.
func known() []knownConfig {
	return []knownConfig{
		{least, 2, 13, 256, 4608, "cells 2 muts 1 regs 1 globs 0"},
		{api.Config{Cells: 4, Muts: 2, Regs: 1, Globs: 0}, 3, 21, 384, 15904, "cells 4 muts 2 regs 1 globs 0"},
		{api.Config{Cells: 3, Muts: 5, Regs: 7, Globs: 11}, 47, 65, 768, 60480, "cells 3 muts 5 regs 7 globs 11"},
		{api.Config{Cells: 4096, Muts: 1, Regs: 1, Globs: 0}, 2, 12295, 256, 541591680, "cells 4096 muts 1 regs 1 globs 0"},
		{api.Config{Cells: 2, Muts: 63, Regs: 1, Globs: 0}, 64, 137, 8192, 4397184, "cells 2 muts 63 regs 1 globs 0"},
		{api.Config{Cells: 2, Muts: 1, Regs: 64, Globs: 0}, 65, 76, 256, 12672, "cells 2 muts 1 regs 64 globs 0"},
		{api.Config{Cells: 2, Muts: 1, Regs: 1, Globs: 64}, 66, 77, 256, 12800, "cells 2 muts 1 regs 1 globs 64"},
		{most, 4097, 16452, 8192, 1359022080, "cells 4096 muts 63 regs 64 globs 64"},
	}
}

type knownConfig struct {
	c                                   api.Config
	roots, words, opRounds, cycleRounds int
	text                                string
}

// field is one of a configuration's numbers, and its ends.
type field struct {
	of          func(c *api.Config) *int
	least, most int
}

func fields() []field {
	return []field{
		{func(c *api.Config) *int { return &c.Cells }, 2, 4096},
		{func(c *api.Config) *int { return &c.Muts }, 1, 63},
		{func(c *api.Config) *int { return &c.Regs }, 1, 64},
		{func(c *api.Config) *int { return &c.Globs }, 0, 64},
	}
}

// with is a configuration with another number in one field.
func with(c api.Config, f field, n int) api.Config {
	*f.of(&c) = n
	return c
}

// beside are numbers that a field must not have.
func beside(f field) []int {
	return []int{
		f.least - 1, f.most + 1, -1, -2, -f.most, -f.most - 1, f.most + 2, 5000, 1 << 16,
		// These have right numbers in their lower bits.
		1<<8 + f.most, 1<<16 + f.most, 1<<32 + f.least, 1<<32 + f.most, 1<<62 + f.most, math.MinInt + f.least,
		math.MinInt, math.MinInt + 1, math.MinInt32, math.MaxInt32, math.MaxInt - 1, math.MaxInt,
	}
}

// wrong are configurations that aren't right: in one field, the others at either end, and in all.
func wrong() []api.Config {
	l := []api.Config{
		{}, {Cells: -1, Muts: -1, Regs: -1, Globs: -1},
		{Cells: math.MaxInt, Muts: math.MaxInt, Regs: math.MaxInt, Globs: math.MaxInt},
		{Cells: math.MinInt, Muts: math.MinInt, Regs: math.MinInt, Globs: math.MinInt},
		{Cells: 2, Muts: -1, Regs: -1}, {Cells: 0, Muts: 1, Regs: 1}, {Cells: 64, Muts: 4096, Regs: 1},
	}
	for _, f := range fields() {
		for _, n := range beside(f) {
			l = append(l, with(least, f, n), with(most, f, n))
		}
	}
	return l
}

// P3.1

func TestCheck(t *testing.T) {
	for _, k := range known() {
		if e := config.Check(k.c); e != api.OK {
			t.Errorf("Check(%v) = %d", k.c, e)
		}
	}
	for _, f := range fields() {
		for n := f.least - 70; n <= f.most+70; n++ {
			want := api.OK
			if n < f.least || n > f.most {
				want = api.ErrRange
			}
			for _, c := range []api.Config{with(least, f, n), with(most, f, n)} {
				if e := config.Check(c); e != want {
					t.Errorf("Check(%v) = %d, not %d", c, e, want)
				}
			}
		}
	}
}

func TestCheckRefuses(t *testing.T) {
	for _, c := range wrong() {
		if e := config.Check(c); e != api.ErrRange {
			t.Errorf("Check(%v) = %d", c, e)
		}
	}
}

func TestRootsAndWords(t *testing.T) {
	for _, k := range known() {
		if roots, words := config.Roots(k.c), config.Words(k.c); roots != k.roots || words != k.words {
			t.Errorf("%v: %d roots, %d words", k.c, roots, words)
		}
	}
	for _, c := range wrong() {
		if roots, words := config.Roots(c), config.Words(c); roots != 0 || words != 0 {
			t.Errorf("%v: %d roots, %d words", c, roots, words)
		}
	}
}

// P3.2

func TestRounds(t *testing.T) {
	for _, k := range known() {
		if op, cycle := config.OpRounds(k.c), config.CycleRounds(k.c); op != k.opRounds || cycle != k.cycleRounds {
			t.Errorf("%v: %d rounds of an operation, %d of a cycle", k.c, op, cycle)
		}
	}
	for _, c := range wrong() {
		if op, cycle := config.OpRounds(c), config.CycleRounds(c); op != 0 || cycle != 0 {
			t.Errorf("%v: %d rounds of an operation, %d of a cycle", c, op, cycle)
		}
	}
}

// P3.3

func TestText(t *testing.T) {
	for _, k := range known() {
		if s := config.Text(k.c); s != k.text {
			t.Errorf("Text(%v) = %q", k.c, s)
		}
	}
	for _, c := range wrong() {
		if s := config.Text(c); s != "" {
			t.Errorf("Text(%v) = %q", c, s)
		}
	}
}

func TestParse(t *testing.T) {
	for _, k := range known() {
		if c, e := config.Parse(k.text); c != k.c || e != api.OK {
			t.Errorf("Parse(%q) = %v, %d", k.text, c, e)
		}
	}
}

// Each number of each field comes back, with the others at either end.
func TestConfigurationsComeBack(t *testing.T) {
	for _, f := range fields() {
		for n := f.least; n <= f.most; n++ {
			for _, c := range []api.Config{with(least, f, n), with(most, f, n)} {
				s := config.Text(c)
				if back, e := config.Parse(s); back != c || e != api.OK {
					t.Errorf("%v has the text %q, which is read as %v, %d", c, s, back, e)
				}
			}
		}
	}
}

// join is what a configuration's text would be, right or not.
func join(cells, muts, regs, globs string) string {
	return "cells " + cells + " muts " + muts + " regs " + regs + " globs " + globs
}

func checkRefused(t *testing.T, s string) {
	t.Helper()
	if c, e := config.Parse(s); c != (api.Config{}) || e != api.ErrForm {
		t.Errorf("Parse(%.80q) = %v, %d", s, c, e)
	}
}

func TestParseRefusesWhatIsNotRight(t *testing.T) {
	for _, c := range wrong() {
		checkRefused(t, join(strconv.Itoa(c.Cells), strconv.Itoa(c.Muts), strconv.Itoa(c.Regs), strconv.Itoa(c.Globs)))
	}
}

func TestParseRefusesOtherNumbers(t *testing.T) {
	for _, n := range []string{
		"", "02", "002", "00", "+2", "-2", "+0", "-0", "--2", "2-", "2.", "2.0", "2e0", "0x2", "0b1", "0o2", "2_0", "1_0",
		"x", "two", "2x", "x2", "?", "\x00", "2\x00", "\x002", "\xff", "２", "٢", "2,", "'2'",
		strings.Repeat("9", 18), strings.Repeat("9", 19), strings.Repeat("9", 20), strings.Repeat("9", 1<<16),
		"9223372036854775807", "9223372036854775808", "-9223372036854775808",
		// These come round to 2 in a word of so many bits.
		"18446744073709551618", "4294967298", "340282366920938463463374607431768211458",
		strings.Repeat("0", 1<<16) + "2",
	} {
		checkRefused(t, join(n, "2", "2", "2"))
		checkRefused(t, join("2", n, "2", "2"))
		checkRefused(t, join("2", "2", n, "2"))
		checkRefused(t, join("2", "2", "2", n))
	}
}

func TestParseRefusesOtherForms(t *testing.T) {
	for _, s := range []string{
		"", " ", "       ", "\n", "\x00", "cells", "cells 2", "cells 2 muts 1", "cells 2 muts 1 regs 1", "cells muts regs globs",
		"muts 1 regs 1 globs 0", "cells 2 regs 1 globs 0", "cells 2 muts 1 globs 0", "2 muts 1 regs 1 globs 0",
		"cells muts 1 regs 1 globs 0", "cells 2 1 regs 1 globs 0", "cells 2 muts 1 regs 1 globs", "2 1 1 0", "x 2 x 1 x 1 x 0",
		"cells 2 cells 2 muts 1 regs 1 globs 0", "cells 2 muts 1 regs 1 globs 0 globs 0", "cells 2 muts 1 muts 1 globs 0",
		"cells 2 cells 2 cells 2 cells 2", "cells cells 2 muts 1 regs 1 globs 0", "cells 2 2 muts 1 regs 1 globs 0",
		"muts 1 cells 2 regs 1 globs 0", "cells 2 muts 1 globs 0 regs 1", "globs 0 regs 1 muts 1 cells 2", "muts 2 cells 2 regs 2 globs 2",
		"2 cells 1 muts 1 regs 0 globs", "cells muts regs globs 2 1 1 0",
		"Cells 2 muts 1 regs 1 globs 0", "CELLS 2 MUTS 1 REGS 1 GLOBS 0", "cells 2 Muts 1 regs 1 globs 0", "cells 2 muts 1 regS 1 globs 0", "cells 2 muts 1 regs 1 Globs 0",
		"cell 2 muts 1 regs 1 globs 0", "cells 2 mutators 1 regs 1 globs 0", "cells 2 muts 1 regs 1 globals 0",
		"cells 2 muts 1 regs 1 globs 0 0", "cells 2 muts 1 regs 1 globs 0 cells 2 muts 1 regs 1 globs 0",
		"cells 2 muts 1 regs 1 globs 0cells 2 muts 1 regs 1 globs 0", "cells 2 muts 1 regs 1 globs 0 x",
		"cells=2 muts=1 regs=1 globs=0", "cells 2, muts 1, regs 1, globs 0",
		strings.Repeat(" ", 1<<20), strings.Repeat("cells 2 ", 1<<16),
	} {
		checkRefused(t, s)
	}
}

// Wherever a byte of a text is taken away, put in or another one, what is left is no text, or another configuration's.
func TestParseReadsEveryByte(t *testing.T) {
	const s = "cells 12 muts 34 regs 56 globs 60"
	if c, e := config.Parse(s); c != (api.Config{Cells: 12, Muts: 34, Regs: 56, Globs: 60}) || e != api.OK {
		t.Fatal(c, e)
	}
	for i := range len(s) {
		checkReadsBackOrRefused(t, s[:i]+s[i+1:])
		for b := range 256 {
			checkReadsBackOrRefused(t, s[:i]+string([]byte{byte(b)})+s[i:])
			checkReadsBackOrRefused(t, s[:i]+string([]byte{byte(b)})+s[i+1:])
		}
	}
	for _, gap := range []string{" ", "  ", "\t", "\n", "\r", "\v", "\x00", "\u00a0", "\u2003"} {
		checkRefused(t, gap+s)
		checkRefused(t, s+gap)
		for i := range len(s) {
			if s[i] == ' ' {
				checkRefused(t, s[:i]+gap+s[i:])
			}
			if s[i] == ' ' && gap != " " {
				checkRefused(t, s[:i]+gap+s[i+1:])
			}
		}
	}
}

func checkReadsBackOrRefused(t *testing.T, s string) {
	t.Helper()
	c, e := config.Parse(s)
	if e != api.OK {
		checkRefused(t, s)
		return
	}
	if config.Check(c) != api.OK || config.Text(c) != s {
		t.Errorf("Parse(%q) = %v, %d, whose text is %q", s, c, e, config.Text(c))
	}
}

// P1

func FuzzParse(f *testing.F) {
	for _, k := range known() {
		f.Add(k.text)
	}
	for _, s := range []string{"", "cells 02 muts 1 regs 1 globs 0", "cells 2 muts +1 regs 1 globs -0", "cells 2  muts 1 regs 1 globs 0 "} {
		f.Add(s)
	}
	f.Fuzz(checkReadsBackOrRefused)
}

func FuzzNumbers(f *testing.F) {
	f.Add(2, 1, 1, 0)
	f.Add(4096, 63, 64, 64)
	f.Add(4097, 64, 65, 65)
	f.Add(math.MaxInt, math.MinInt, -1, 0)
	f.Fuzz(func(t *testing.T, cells, muts, regs, globs int) {
		c := api.Config{Cells: cells, Muts: muts, Regs: regs, Globs: globs}
		right := cells >= 2 && cells <= 4096 && muts >= 1 && muts <= 63 && regs >= 1 && regs <= 64 && globs >= 0 && globs <= 64
		if right != (config.Check(c) == api.OK) {
			t.Errorf("Check(%v) = %d", c, config.Check(c))
		}
		if !right {
			if config.Roots(c) != 0 || config.Words(c) != 0 || config.OpRounds(c) != 0 || config.CycleRounds(c) != 0 || config.Text(c) != "" {
				t.Errorf("%v: %d, %d, %d, %d, %q", c, config.Roots(c), config.Words(c), config.OpRounds(c), config.CycleRounds(c), config.Text(c))
			}
			return
		}
		if back, e := config.Parse(config.Text(c)); back != c || e != api.OK {
			t.Errorf("%v comes back as %v, %d", c, back, e)
		}
	})
}
