package ticket_test

import (
	"fmt"
	"math"
	"slices"
	"testing"

	"mudlark/api"
	"mudlark/arena"
	"mudlark/hand"
	"mudlark/place"
	"mudlark/ticket"
)

const last = api.Word(math.MaxUint64)

var (
	least = api.Config{Cells: 2, Muts: 1, Regs: 1, Globs: 0}
	some  = api.Config{Cells: 3, Muts: 2, Regs: 2, Globs: 2}
	most  = api.Config{Cells: 4096, Muts: 63, Regs: 64, Globs: 64}
)

func right() []api.Config {
	return []api.Config{least, some, most}
}

// ownLines are the lines of this layer.
func ownLines() []int {
	return []int{32, 33, 37, 41}
}

// otherLines are lines of other layers, lines that there aren't, and the ends of int.
func otherLines() []int {
	return []int{
		0, 1, 10, 30, 31, 34, 35, 36, 38, 39, 40, 42, 43, 64, 79, 80, 81, 82, 90, 132, 3232,
		-1, -32, -33, -37, -41, 1<<32 + 32, 1<<32 + 33, 1<<32 + 37, 1<<32 + 41,
		math.MinInt, math.MinInt + 32, math.MinInt + 33, math.MaxInt - 1, math.MaxInt,
	}
}

// counts are words that next and serve may have.
func counts() []api.Word {
	return []api.Word{0, 1, 4, 5, 6, 7, 255, 1<<32 - 1, 1 << 32, 1<<63 - 1, 1 << 63, last - 1, last}
}

// busy are mutators with nothing, with something in each field, and with the greatest numbers there.
func busy() []api.Mut {
	least := math.MinInt
	return []api.Mut{
		{},
		{Line: 18, Op: api.Op{Kind: 6, A: 1, B: 2, C: 3}, A: 7, B: 9, H: 11, N: 13, T: 15, P: 17, Back: 19, Ret: api.RetOK},
		{Line: 80, Op: api.Op{Kind: 3, A: 4, B: 5, C: 6}, A: 1, B: 2, H: 3, N: 4, T: 5, P: 1, Back: 37, Ret: api.RetFull},
		{Line: least, Op: api.Op{Kind: least, A: least, B: least, C: least}, A: last, B: last, H: last, N: last, T: last, P: last, Back: least, Ret: least},
	}
}

// on is a mutator on a line, with a ticket: all else is kept.
func on(x api.Mut, line int, ticket api.Word) api.Mut {
	x.Line, x.T = line, ticket
	return x
}

func at(x api.Mut, line int) api.Mut {
	x.Line = line
	return x
}

// mixed are the words of a memory, no two of which are alike: a word that is changed is seen.
func mixed(c api.Config) []api.Word {
	l := make([]api.Word, 5+c.Muts+c.Globs+c.Muts*c.Regs+3*c.Cells)
	for at := range l {
		l[at] = api.Word(at+1) * 0x9e3779b97f4a7c15
	}
	return l
}

// with are words of which one is another one.
func with(l []api.Word, at int, x api.Word) []api.Word {
	l = slices.Clone(l)
	l[at] = x
	return l
}

func from(t *testing.T, c api.Config, l ...api.Word) *hand.Hand {
	t.Helper()
	h, e := hand.From(c, l...)
	if h == nil || e != api.OK {
		t.Fatalf("From(%v) of %d words = %v, %d", c, len(l), h, e)
	}
	return h
}

// mustHave holds the access and all words of a hand against what they must be.
func mustHave(t *testing.T, what string, h *hand.Hand, x api.Access, want []api.Word) {
	t.Helper()
	if h.Access != x {
		t.Fatalf("%s: the access is %+v, not %+v", what, h.Access, x)
	}
	if got := h.All(); !slices.Equal(got, want) {
		t.Fatalf("%s: all words are %v, not %v", what, got, want)
	}
}

// mustStep does a line, and holds its answer, the access and all words against what they must be.
func mustStep(t *testing.T, h *hand.Hand, x, want api.Mut, did api.Access, words []api.Word) {
	t.Helper()
	c := h.Config
	got, ok := ticket.Step(h, x)
	if !ok || got != want {
		t.Fatalf("%v: Step(%+v) = %+v, %v, not %+v", c, x, got, ok, want)
	}
	mustHave(t, fmt.Sprintf("%v: behind %+v", c, x), h, did, words)
	if h.Config != c {
		t.Fatalf("behind %+v the map is that of %v, not of %v", x, h.Config, c)
	}
}

// mustRefuse holds Step's answer on a line of another layer, or with a nil hand, against what it must be.
func mustRefuse(t *testing.T, h *hand.Hand, x api.Mut) {
	t.Helper()
	if got, ok := ticket.Step(h, x); ok || got != x {
		t.Fatalf("Step(%+v) = %+v, %v", x, got, ok)
	}
}

// drawing is the access of the line 32, waiting that of the line 33, and giving that of the lines 37 and 41.
func drawing(old api.Word) api.Access {
	return api.Access{Kind: api.AAdd, At: 3, X: 1, Old: old}
}

func waiting(old api.Word) api.Access {
	return api.Access{Kind: api.ALoad, At: 4, Old: old}
}

func giving(old api.Word) api.Access {
	return api.Access{Kind: api.AAdd, At: 4, X: 1, Old: old}
}

// P11.1

func TestExample(t *testing.T) {
	h := from(t, least, 1, 0, 0, 5, 5, 0, 0, 0, 3, 0, 0, 0, 0)
	x := api.Mut{Line: 32}
	for _, want := range []struct {
		x     api.Mut
		did   api.Access
		words []api.Word
	}{
		{api.Mut{Line: 33, T: 5}, api.Access{Kind: api.AAdd, At: 3, X: 1, Old: 5}, []api.Word{1, 0, 0, 6, 5, 0, 0, 0, 3, 0, 0, 0, 0}},
		{api.Mut{Line: 34, T: 5}, api.Access{Kind: api.ALoad, At: 4, Old: 5}, []api.Word{1, 0, 0, 6, 5, 0, 0, 0, 3, 0, 0, 0, 0}},
		{api.Mut{Line: 38, T: 5}, api.Access{Kind: api.AAdd, At: 4, X: 1, Old: 5}, []api.Word{1, 0, 0, 6, 6, 0, 0, 0, 3, 0, 0, 0, 0}},
	} {
		if x.Line == 34 {
			x.Line = 37 // the lines between are another layer's
		}
		mustStep(t, h, x, want.x, want.did, want.words)
		x = want.x
	}
	mustStep(t, h, api.Mut{Line: 41, T: 5}, api.Mut{Line: 90, T: 5}, api.Access{Kind: api.AAdd, At: 4, X: 1, Old: 6}, []api.Word{1, 0, 0, 6, 7, 0, 0, 0, 3, 0, 0, 0, 0})
}

func TestAtFirst(t *testing.T) {
	h, e := hand.New(least)
	if e != api.OK {
		t.Fatal(e)
	}
	mustStep(t, h, api.Mut{Line: 32}, api.Mut{Line: 33}, drawing(0), []api.Word{1, 0, 0, 1, 0, 0, 0, 0, 3, 0, 0, 0, 0})
	mustStep(t, h, api.Mut{Line: 32}, api.Mut{Line: 33, T: 1}, drawing(1), []api.Word{1, 0, 0, 2, 0, 0, 0, 0, 3, 0, 0, 0, 0})
}

// By hand: next 0, 5 and the greatest word, behind which it is 0 again.
func TestDrawingByHand(t *testing.T) {
	for _, c := range []struct{ was, is api.Word }{{0, 1}, {5, 6}, {last, 0}} {
		l := with(mixed(some), 3, c.was)
		x := api.Mut{Line: 32, T: 77}
		mustStep(t, from(t, some, l...), x, api.Mut{Line: 33, T: c.was}, drawing(c.was), with(l, 3, c.is))
	}
}

// Whatever next and serve are, whatever ticket was there ahead, and with all other fields kept.
func TestDrawing(t *testing.T) {
	for _, c := range right() {
		for _, was := range counts() {
			l := with(mixed(c), 3, was)
			h := from(t, c, l...)
			for k, ahead := range counts() {
				x := on(busy()[k%len(busy())], 32, ahead)
				h.Arena.Store(3, was)
				mustStep(t, h, x, on(x, 33, was), drawing(was), with(l, 3, was+1))
			}
		}
	}
	for _, b := range busy() {
		l := with(with(mixed(some), 3, 5), 4, 5)
		mustStep(t, from(t, some, l...), at(b, 32), on(b, 33, 5), drawing(5), with(l, 3, 6))
	}
}

// By hand: serve is the ticket, one less, one more, and far away.
func TestWaitingByHand(t *testing.T) {
	for _, c := range []struct {
		ticket, serve api.Word
		line          int
	}{
		{0, 0, 34}, {0, last, 33}, {0, 1, 33}, {0, 1 << 63, 33}, {0, 1 << 32, 33}, {0, 77, 33},
		{5, 5, 34}, {5, 4, 33}, {5, 6, 33}, {5, 0, 33}, {5, last, 33}, {5, 1<<32 + 5, 33}, {5, 1<<63 + 5, 33},
		{last, last, 34}, {last, last - 1, 33}, {last, 0, 33}, {last, 5, 33}, {last, 1<<63 - 1, 33}, {last, 1<<32 - 1, 33},
	} {
		l := with(mixed(some), 4, c.serve)
		x := api.Mut{Line: 33, T: c.ticket}
		mustStep(t, from(t, some, l...), x, api.Mut{Line: c.line, T: c.ticket}, waiting(c.serve), l)
	}
}

func TestWaiting(t *testing.T) {
	for _, c := range right() {
		for _, serve := range counts() {
			l := with(mixed(c), 4, serve)
			h := from(t, c, l...)
			for k, own := range counts() {
				x := on(busy()[k%len(busy())], 33, own)
				if own == serve {
					mustStep(t, h, x, at(x, 34), waiting(serve), l)
				} else {
					mustStep(t, h, x, x, waiting(serve), l)
				}
			}
		}
	}
	for _, b := range busy() {
		l := with(mixed(some), 4, b.T)
		mustStep(t, from(t, some, l...), at(b, 33), at(b, 34), waiting(b.T), l)
		l = with(l, 4, b.T+1)
		mustStep(t, from(t, some, l...), at(b, 33), at(b, 33), waiting(b.T+1), l)
	}
}

// What is drawn next plays no part in whose turn it is.
func TestWaitingLooksAtServeAlone(t *testing.T) {
	l := with(with(mixed(some), 3, 5), 4, 6)
	mustStep(t, from(t, some, l...), api.Mut{Line: 33, T: 5}, api.Mut{Line: 33, T: 5}, waiting(6), l)
	l = with(with(l, 3, 6), 4, 5)
	mustStep(t, from(t, some, l...), api.Mut{Line: 33, T: 5}, api.Mut{Line: 34, T: 5}, waiting(5), l)
}

// By hand: serve 0, 5 and the greatest word, behind which it is 0 again.
func TestGivingBackByHand(t *testing.T) {
	for _, c := range []struct{ was, is api.Word }{{0, 1}, {5, 6}, {last, 0}} {
		l := with(mixed(some), 4, c.was)
		mustStep(t, from(t, some, l...), api.Mut{Line: 37, T: 77}, api.Mut{Line: 38, T: 77}, giving(c.was), with(l, 4, c.is))
		mustStep(t, from(t, some, l...), api.Mut{Line: 41, T: 77}, api.Mut{Line: 90, T: 77}, giving(c.was), with(l, 4, c.is))
	}
}

// Whatever serve and the ticket are: no more is asked of who gives back.
func TestGivingBack(t *testing.T) {
	for _, c := range right() {
		for _, was := range counts() {
			l := with(mixed(c), 4, was)
			h := from(t, c, l...)
			for k, own := range counts() {
				x := on(busy()[k%len(busy())], 37, own)
				h.Arena.Store(4, was)
				mustStep(t, h, x, at(x, 38), giving(was), with(l, 4, was+1))
				h.Arena.Store(4, was)
				mustStep(t, h, at(x, 41), at(x, 90), giving(was), with(l, 4, was+1))
			}
		}
	}
	for _, b := range busy() {
		l := with(mixed(some), 4, b.T)
		mustStep(t, from(t, some, l...), at(b, 37), at(b, 38), giving(b.T), with(l, 4, b.T+1))
		mustStep(t, from(t, some, l...), at(b, 41), at(b, 90), giving(b.T), with(l, 4, b.T+1))
	}
}

// On other lines nothing is done, and the access of an earlier step stays as well.
func TestOtherLines(t *testing.T) {
	for _, l := range [][]api.Word{mixed(some), make([]api.Word, len(mixed(some)))} {
		h := from(t, some, l...)
		for _, did := range []api.Access{{}, {Kind: api.ALoad, At: 3, Old: 9}, {Kind: 99, At: -1, X: 97, Y: 96, Old: 95}} {
			h.Access = did
			for _, b := range busy() {
				for _, line := range otherLines() {
					for _, own := range []api.Word{0, l[4], l[3], last} {
						mustRefuse(t, h, on(b, line, own))
						mustHave(t, fmt.Sprintf("on the line %d", line), h, did, l)
					}
				}
			}
		}
	}
}

func TestNilHand(t *testing.T) {
	for _, b := range busy() {
		for _, line := range append(otherLines(), ownLines()...) {
			for _, own := range counts() {
				mustRefuse(t, nil, on(b, line, own))
			}
		}
	}
}

// A hand that has no places can do no access: what is loaded is 0.
func TestHandsWithoutPlaces(t *testing.T) {
	for name, h := range map[string]*hand.Hand{
		"a zero hand": {},
		"no arena":    {Map: place.Map{Config: some}},
		"no words":    {Arena: arena.New()},
	} {
		for _, b := range busy() {
			for _, c := range []struct{ x, want api.Mut }{
				{at(b, 32), on(b, 33, 0)},
				{on(b, 33, 0), on(b, 34, 0)},
				{on(b, 33, 1), on(b, 33, 1)},
				{at(b, 37), at(b, 38)},
				{at(b, 41), at(b, 90)},
			} {
				h.Access = api.Access{Kind: api.ALoad, At: 1}
				if got, ok := ticket.Step(h, c.x); !ok || got != c.want || h.Access != (api.Access{}) {
					t.Errorf("%s: Step(%+v) = %+v, %v, not %+v, and the access %+v", name, c.x, got, ok, c.want, h.Access)
				}
			}
			for _, line := range otherLines() {
				mustRefuse(t, h, at(b, line))
			}
		}
	}
}

// Each step's access takes the place of the one that stood there.
func TestAccessIsThatOfTheStep(t *testing.T) {
	l := with(with(mixed(least), 3, 8), 4, 7)
	h := from(t, least, l...)
	h.Access = api.Access{Kind: 99, At: 98, X: 97, Y: 96, Old: 95}
	mustStep(t, h, api.Mut{Line: 33, T: 8}, api.Mut{Line: 33, T: 8}, waiting(7), l)
	l = with(l, 4, 8)
	mustStep(t, h, api.Mut{Line: 37}, api.Mut{Line: 38}, giving(7), l)
	mustStep(t, h, api.Mut{Line: 33, T: 8}, api.Mut{Line: 34, T: 8}, waiting(8), l)
	l = with(l, 3, 9)
	mustStep(t, h, api.Mut{Line: 32}, api.Mut{Line: 33, T: 8}, drawing(8), l)
	l = with(l, 4, 9)
	mustStep(t, h, api.Mut{Line: 41}, api.Mut{Line: 90}, giving(8), l)
}

// P11.2

func mustAnswer(t *testing.T, x api.Mut, wants, holds bool) {
	t.Helper()
	if ticket.Wants(x) != wants || ticket.Holds(x) != holds {
		t.Errorf("of %+v Wants is %v, and Holds %v", x, ticket.Wants(x), ticket.Holds(x))
	}
}

func TestWantsAndHoldsByHand(t *testing.T) {
	for _, b := range busy() {
		for _, c := range []struct {
			line         int
			wants, holds bool
		}{
			{30, false, false}, {31, false, false}, {32, false, false}, {33, true, false},
			{34, false, true}, {35, false, true}, {36, false, true}, {37, false, true},
			{38, false, false}, {39, false, false}, {40, false, false}, {41, false, true},
			{42, false, false}, {43, false, false}, {44, false, false}, {45, false, false},
		} {
			mustAnswer(t, at(b, c.line), c.wants, c.holds)
		}
	}
}

func TestHoldsWhileShading(t *testing.T) {
	for _, b := range busy() {
		for _, line := range []int{80, 81} {
			for _, back := range []int{36, 37, 38, 0, 90, 33, 34, 35, 39, 40, 41, 80, 81, -37, 1<<32 + 37, math.MinInt, math.MinInt + 37, math.MaxInt} {
				x := at(b, line)
				x.Back = back
				mustAnswer(t, x, false, back == 37)
			}
		}
		for _, line := range []int{79, 82} {
			x := at(b, line)
			x.Back = 37
			mustAnswer(t, x, false, false)
		}
	}
}

// Back plays a part on the lines 80 and 81 alone, whatever it is on the others.
func TestWantsAndHoldsOnOtherLines(t *testing.T) {
	for _, b := range busy() {
		for _, back := range []int{0, 33, 34, 37, 41, 90, math.MinInt, math.MaxInt} {
			for line := -200; line <= 200; line++ {
				x := at(b, line)
				x.Back = back
				holds := line == 34 || line == 35 || line == 36 || line == 37 || line == 41 || back == 37 && (line == 80 || line == 81)
				mustAnswer(t, x, line == 33, holds)
			}
			for _, line := range []int{1<<32 + 33, 1<<32 + 34, 1<<32 + 41, 1<<32 + 80, math.MinInt, math.MinInt + 33, math.MinInt + 34, math.MaxInt - 1, math.MaxInt} {
				x := at(b, line)
				x.Back = back
				mustAnswer(t, x, false, false)
			}
		}
	}
}

// P11.3

// crowd is some mutators that draw, wait and give back, a few times each.
type crowd struct {
	h     *hand.Hand
	muts  []api.Mut
	left  []int // how often each is still to draw
	queue []int // who drew, and hasn't given back yet, in the order of their drawing
	start api.Word
	draws int
}

func newCrowd(t *testing.T, n, times int, start api.Word) *crowd {
	t.Helper()
	c := api.Config{Cells: 2, Muts: n, Regs: 1}
	l := with(with(mixed(c), 3, start), 4, start)
	g := &crowd{h: from(t, c, l...), start: start}
	for range n {
		g.muts = append(g.muts, api.Mut{Line: 32})
		g.left = append(g.left, times)
	}
	return g
}

func (g *crowd) clone(t *testing.T) *crowd {
	t.Helper()
	return &crowd{
		h: from(t, g.h.Config, g.h.All()...), start: g.start, draws: g.draws,
		muts: slices.Clone(g.muts), left: slices.Clone(g.left), queue: slices.Clone(g.queue),
	}
}

// pick lets a mutator do a step, and looks at all that must hold then; false: it has no more to do.
func (g *crowd) pick(t *testing.T, i int) bool {
	t.Helper()
	x := g.muts[i]
	switch x.Line {
	case 32:
		if g.left[i] == 0 {
			return false
		}
		g.draw(t, i)
	case 33:
		g.wait(t, i)
	case 37, 41:
		g.giveBack(t, i)
	default:
		g.muts[i] = elsewhere(x, (i+g.left[i])%4)
	}
	g.mustBeOrderly(t)
	return true
}

func (g *crowd) step(t *testing.T, i int) api.Mut {
	t.Helper()
	x, ok := ticket.Step(g.h, g.muts[i])
	if !ok {
		t.Fatalf("Step(%+v) isn't done", g.muts[i])
	}
	g.muts[i] = x
	return x
}

func (g *crowd) draw(t *testing.T, i int) {
	t.Helper()
	want := g.start + api.Word(g.draws)
	if x := g.step(t, i); x.Line != 33 || x.T != want {
		t.Fatalf("from %d on, behind %d draws: %d drew %+v", g.start, g.draws, i, x)
	}
	g.draws++
	g.left[i]--
	g.queue = append(g.queue, i)
}

// Who waits gets it at once, if nobody who drew ahead still has it, or is still to get it.
func (g *crowd) wait(t *testing.T, i int) {
	t.Helper()
	if x := g.step(t, i); (x.Line == 34) != (g.queue[0] == i) || x.Line != 33 && x.Line != 34 {
		t.Fatalf("from %d on: %d waited, and is %+v, of the queue %v", g.start, i, x, g.queue)
	}
}

func (g *crowd) giveBack(t *testing.T, i int) {
	t.Helper()
	g.step(t, i)
	if len(g.queue) == 0 || g.queue[0] != i {
		t.Fatalf("from %d on: %d gave back, of the queue %v", g.start, i, g.queue)
	}
	g.queue = g.queue[1:]
}

// elsewhere is the next line of the other layers: there are four ways from getting the lock to giving it back.
func elsewhere(x api.Mut, way int) api.Mut {
	switch x.Line {
	case 34:
		return at(x, 35)
	case 35:
		if way == 0 {
			return at(x, 41)
		}
		return at(x, 36)
	case 36:
		if way == 1 {
			return at(x, 37)
		}
		x.Line, x.Back = 80, 37
		return x
	case 80:
		if way == 2 {
			x.Line, x.Back = 37, 0
			return x
		}
		return at(x, 81)
	case 81:
		x.Line, x.Back = 37, 0
		return x
	}
	return at(x, 32) // behind giving back: once more
}

func (g *crowd) mustBeOrderly(t *testing.T) {
	t.Helper()
	var holders, queuers []int
	for i, x := range g.muts {
		if ticket.Holds(x) {
			holders = append(holders, i)
		}
		if ticket.Holds(x) || ticket.Wants(x) {
			queuers = append(queuers, i)
		}
	}
	if len(holders) > 1 || len(holders) == 1 && holders[0] != g.queue[0] {
		t.Fatalf("from %d on: %v hold the lock, of the queue %v: %+v", g.start, holders, g.queue, g.muts)
	}
	if want := slices.Sorted(slices.Values(g.queue)); !slices.Equal(queuers, want) {
		t.Fatalf("from %d on: %v want or hold it, not %v", g.start, queuers, want)
	}
}

// mustBeOver holds it that each drew as often as it was to, and that the lock is free.
func (g *crowd) mustBeOver(t *testing.T, draws int) {
	t.Helper()
	end := g.start + api.Word(draws)
	want := with(with(mixed(g.h.Config), 3, end), 4, end)
	if g.draws != draws || len(g.queue) != 0 || !slices.Equal(g.h.All(), want) {
		t.Fatalf("from %d on: %d draws, the queue %v, and the words %v", g.start, g.draws, g.queue, g.h.All())
	}
}

func starts() []api.Word {
	return []api.Word{0, 5, 1<<32 - 2, 1<<63 - 2, last - 4, last - 1, last}
}

// All orders of the steps of three mutators that take the lock twice each, wherever tickets begin.
func TestAllOrders(t *testing.T) {
	for _, start := range starts() {
		first := newCrowd(t, 3, 2, start)
		seen, todo, ends := map[string]bool{}, []*crowd{first}, 0
		for len(todo) > 0 {
			g := todo[len(todo)-1]
			todo = todo[:len(todo)-1]
			moved := false
			for i := range g.muts {
				next := g.clone(t)
				if !next.pick(t, i) {
					continue
				}
				moved = true
				if key := fmt.Sprint(next.muts, next.left, next.queue, next.h.All()); !seen[key] {
					seen[key] = true
					todo = append(todo, next)
				}
			}
			if !moved {
				g.mustBeOver(t, 6)
				ends++
			}
		}
		if ends == 0 || len(seen) < 1000 {
			t.Fatalf("from %d on: %d ends, of %d states", start, ends, len(seen))
		}
	}
}

// orders are rules by which the next one of n mutators is picked: each picks all of them over and over.
func orders() map[string]func(k, n int) int {
	drawn := uint64(7)
	return map[string]func(k, n int) int{
		"one after the other": func(k, n int) int { return k % n },
		"backwards":           func(k, n int) int { return n - 1 - k%n },
		"each many times":     func(k, n int) int { return k / 25 % n },
		"each all at once":    func(k, n int) int { return k / 500 % n },
		"to and fro":          func(k, n int) int { return max(k%(2*n)-n, n-1-k%(2*n)) },
		"the first one most":  func(k, n int) int { return k % 2 * (k / 2 % n) },
		"mixed up": func(_, n int) int {
			drawn = drawn*6364136223846793005 + 1442695040888963407
			return int(drawn>>33) % n
		},
	}
}

func TestLongOrders(t *testing.T) {
	for _, n := range []int{1, 2, 5, 13} {
		for _, start := range starts() {
			for name, order := range orders() {
				mustRunOrderly(t, name, order, newCrowd(t, n, 5, start))
			}
		}
	}
}

// As many mutators as there may be: their tickets go round the word while most of them wait.
func TestLongOrdersOfMost(t *testing.T) {
	for name, order := range orders() {
		mustRunOrderly(t, name, order, newCrowd(t, 63, 2, last-30))
	}
}

func mustRunOrderly(t *testing.T, name string, order func(k, n int) int, g *crowd) {
	t.Helper()
	n, draws := len(g.muts), 0
	for _, times := range g.left {
		draws += times
	}
	for k := 0; k < 1_000_000 && g.busy(); k++ {
		g.pick(t, order(k, n))
	}
	if g.busy() {
		t.Fatalf("%s: %d mutators aren't over: %+v", name, n, g.muts)
	}
	g.mustBeOver(t, draws)
}

func (g *crowd) busy() bool {
	for i, x := range g.muts {
		if g.left[i] > 0 || x.Line != 32 {
			return true
		}
	}
	return false
}

// P1, and each answer at all arguments, held against the chapter's tables.
func FuzzCalls(f *testing.F) {
	f.Add(32, uint64(0), uint64(5), uint64(5), 90)
	f.Add(33, uint64(5), uint64(9), uint64(5), 37)
	f.Add(33, uint64(math.MaxUint64), uint64(0), uint64(0), 0)
	f.Add(37, uint64(1), uint64(math.MaxUint64), uint64(math.MaxUint64), math.MinInt)
	f.Add(41, uint64(1)<<63, uint64(2), uint64(1), math.MaxInt)
	f.Add(81, uint64(4), uint64(2), uint64(1), 37)
	f.Add(math.MinInt, uint64(4), uint64(4), uint64(4), 37)
	f.Fuzz(func(t *testing.T, line int, own, next, serve uint64, back int) {
		x := on(busy()[1], line, api.Word(own))
		x.Back = back
		mustRefuse(t, nil, x)
		shades := (line == 80 || line == 81) && back == 37
		mustAnswer(t, x, line == 33, line >= 34 && line <= 37 || line == 41 || shades)
		l := with(with(mixed(some), 3, api.Word(next)), 4, api.Word(serve))
		h := from(t, some, l...)
		switch {
		case line == 32:
			mustStep(t, h, x, on(x, 33, api.Word(next)), drawing(api.Word(next)), with(l, 3, api.Word(next+1)))
		case line == 33 && own == serve:
			mustStep(t, h, x, at(x, 34), waiting(api.Word(serve)), l)
		case line == 33:
			mustStep(t, h, x, x, waiting(api.Word(serve)), l)
		case line == 37:
			mustStep(t, h, x, at(x, 38), giving(api.Word(serve)), with(l, 4, api.Word(serve+1)))
		case line == 41:
			mustStep(t, h, x, at(x, 90), giving(api.Word(serve)), with(l, 4, api.Word(serve+1)))
		default:
			mustRefuse(t, h, x)
			mustHave(t, "on another line", h, api.Access{}, l)
		}
	})
}
