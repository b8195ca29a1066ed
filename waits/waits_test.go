package waits_test

import (
	"fmt"
	"maps"
	"math"
	"runtime/debug"
	"slices"
	"testing"

	"wicket/admit"
	"wicket/api"
	"wicket/lock"
	"wicket/waits"
)

// most is the greatest ticket that an edge may name.
const most uint64 = math.MaxUint64

// chance tells numbers that look like chance and are the same in each run.
type chance uint64

func (c *chance) next() uint64 {
	*c ^= *c << 13
	*c ^= *c >> 7
	*c ^= *c << 17
	return uint64(*c)
}

// below tells one of 0 to n - 1.
func (c *chance) below(n int) int {
	return int(c.next() % uint64(n))
}

// shuffled tells the edges in another order.
func (c *chance) shuffled(edges []waits.Edge) []waits.Edge {
	list := slices.Clone(edges)
	for i := len(list) - 1; i > 0; i-- {
		j := c.below(i + 1)
		list[i], list[j] = list[j], list[i]
	}
	return list
}

// inLine, forRoom and atBlock tell an edge of each kind.
func inLine(from, to uint64) waits.Edge {
	return waits.Edge{From: from, To: to, Why: waits.Line, Block: -1}
}

func forRoom(from, to uint64) waits.Edge {
	return waits.Edge{From: from, To: to, Why: waits.Room, Block: -1}
}

func atBlock(block int, from, to uint64) waits.Edge {
	return waits.Edge{From: from, To: to, Why: waits.Lock, Block: block}
}

// edges tells edges by pairs of tickets, of one kind.
func edges(pairs ...uint64) []waits.Edge {
	var list []waits.Edge
	for i := 0; i+1 < len(pairs); i += 2 {
		list = append(list, inLine(pairs[i], pairs[i+1]))
	}
	return list
}

// tickets tells all that stand in an edge, rising, each once.
func tickets(list []waits.Edge) []uint64 {
	var all []uint64
	for _, e := range list {
		all = append(all, e.From, e.To)
	}
	slices.Sort(all)
	return slices.Compact(all)
}

// nexts tells whom a ticket waits for, rising, each once.
func nexts(list []waits.Edge, ticket uint64) []uint64 {
	var to []uint64
	for _, e := range list {
		if e.From == ticket {
			to = append(to, e.To)
		}
	}
	slices.Sort(to)
	return slices.Compact(to)
}

// wayOf tells the least way of just so many edges from a ticket to another one, that one left out: all of them are tried, the lesser ones first.
func wayOf(list []waits.Edge, from, to uint64, steps int) []uint64 {
	for _, n := range nexts(list, from) {
		if steps == 1 && n == to {
			return []uint64{from}
		}
		if steps > 1 {
			if rest := wayOf(list, n, to, steps-1); rest != nil {
				return append([]uint64{from}, rest...)
			}
		}
	}
	return nil
}

// ringOf is Ring by another hand, word for word: of each ticket, the least first, the ways back to it, the shortest first.
func ringOf(list []waits.Edge) []uint64 {
	all := tickets(list)
	for _, n := range all {
		for steps := 1; steps <= len(all); steps++ {
			if way := wayOf(list, n, n, steps); way != nil {
				return way
			}
		}
	}
	return nil
}

// longest tells how many edges the longest chain has that begins at a ticket: all chains are gone through.
func longest(list []waits.Edge, ticket uint64) int {
	most := 0
	for _, n := range nexts(list, ticket) {
		most = max(most, 1+longest(list, n))
	}
	return most
}

// freeOf is Free by another hand.
func freeOf(list []waits.Edge, tickets []uint64) []uint64 {
	var free []uint64
	for _, n := range tickets {
		if len(nexts(list, n)) == 0 {
			free = append(free, n)
		}
	}
	return free
}

// roomy tells a copy of a list with spare room, and the same memory, spare room too.
func roomy[T any](list []T, with T) ([]T, []T) {
	whole := append(slices.Clone(list), with, with, with)
	return whole[:len(list)], whole
}

// spoil writes over a list, spare room too.
func spoil[T any](list []T, with T) {
	list = list[:cap(list)]
	for i := range list {
		list[i] = with
	}
}

// rings holds Ring against a list, with edges in spare room that would make another ring, and holds what was handed in against what it was.
func rings(t *testing.T, list []waits.Edge, want ...uint64) {
	t.Helper()
	in, whole := roomy(list, inLine(0, 0))
	was := slices.Clone(whole)
	if got := waits.Ring(in); !slices.Equal(got, want) {
		t.Fatalf("Ring of %v = %v, want %v", list, got, want)
	}
	if !slices.Equal(whole, was) {
		t.Fatalf("Ring has made %v of %v", whole, was)
	}
}

// rises holds Heights against a map; nil: there is a ring.
func rises(t *testing.T, list []waits.Edge, want map[uint64]int) {
	t.Helper()
	in, whole := roomy(list, inLine(0, 0))
	was := slices.Clone(whole)
	got, e := waits.Heights(in)
	if want == nil && (e != api.ErrInput || got != nil) {
		t.Fatalf("Heights of %v = %v, %d, want ErrInput", list, got, e)
	}
	if want != nil && (e != api.OK || !maps.Equal(got, want)) {
		t.Fatalf("Heights of %v = %v, %d, want %v", list, got, e, want)
	}
	if !slices.Equal(whole, was) {
		t.Fatalf("Heights has made %v of %v", whole, was)
	}
}

// frees holds Free against a list.
func frees(t *testing.T, list []waits.Edge, asked []uint64, want ...uint64) {
	t.Helper()
	in, whole := roomy(list, inLine(5, 6))
	of, wholeOf := roomy(asked, 77)
	was, wasOf := slices.Clone(whole), slices.Clone(wholeOf)
	if got := waits.Free(in, of); !slices.Equal(got, want) {
		t.Fatalf("Free of %v and %v = %v, want %v", list, asked, got, want)
	}
	if !slices.Equal(whole, was) || !slices.Equal(wholeOf, wasOf) {
		t.Fatalf("Free has made %v of %v, and %v of %v", whole, was, wholeOf, wasOf)
	}
}

// judged holds all that is told of edges, which must be few, against the other hand.
func judged(t *testing.T, list []waits.Edge) {
	t.Helper()
	ring := ringOf(list)
	rings(t, list, ring...)
	all := tickets(list)
	var heights map[uint64]int
	if len(ring) == 0 {
		heights = map[uint64]int{}
		for _, n := range all {
			heights[n] = longest(list, n)
		}
	}
	rises(t, list, heights)
	frees(t, list, all, freeOf(list, all)...)
}

// entry is a ticket that ever was given.
type entry struct {
	ticket   uint64
	set      []int
	waiting  bool // it stands in the line
	in       bool // it has room reserved
	laid     bool // it stands in its blocks' queues
	appended int
}

// model is a line and locks by another hand: all that ever took a ticket, in their order. There are neither lines nor queues: who stands where is found by going through all of them.
type model struct {
	c    api.Config
	all  []entry
	used int
}

func (m *model) copy() *model {
	return &model{m.c, slices.Clone(m.all), m.used}
}

// at tells the entry of a ticket.
func (m *model) at(ticket uint64) *entry {
	return &m.all[ticket-1]
}

// those tells the tickets of which something is so.
func (m *model) those(is func(entry) bool) []uint64 {
	var list []uint64
	for _, x := range m.all {
		if is(x) {
			list = append(list, x.ticket)
		}
	}
	return list
}

func (m *model) waiting() []uint64 { return m.those(func(x entry) bool { return x.waiting }) }

func (m *model) in() []uint64 { return m.those(func(x entry) bool { return x.in }) }

func (m *model) laid() []uint64 { return m.those(func(x entry) bool { return x.laid }) }

// there tells all that are there, wherever.
func (m *model) there() []uint64 {
	return m.those(func(x entry) bool { return x.waiting || x.in || x.laid })
}

// fits tells whether there is room for a ticket.
func (m *model) fits(ticket uint64) bool {
	need := m.used + len(m.at(ticket).set) + 1
	for _, x := range m.all {
		if x.in {
			need += len(x.set) + 1 - x.appended
		}
	}
	return need <= m.c.LogCap
}

// ahead tells for each of the tickets that is not the first the edge to the one directly ahead.
func ahead(tickets []uint64, edge func(from, to uint64) waits.Edge) []waits.Edge {
	var list []waits.Edge
	for i, n := range tickets {
		if i > 0 {
			list = append(list, edge(n, tickets[i-1]))
		}
	}
	return list
}

// edges is Of by another hand.
func (m *model) edges() []waits.Edge {
	line := m.waiting()
	list := ahead(line, inLine)
	if len(line) > 0 && !m.fits(line[0]) {
		for _, n := range m.in() {
			list = append(list, forRoom(line[0], n))
		}
	}
	for b := range m.c.Blocks {
		queue := m.those(func(x entry) bool { return x.laid && slices.Contains(x.set, b) })
		list = append(list, ahead(queue, func(from, to uint64) waits.Edge { return atBlock(b, from, to) })...)
	}
	return list
}

// world is a line and locks beside their model, and others that go through the same and of which Of is never asked.
type world struct {
	t    *testing.T
	l    *admit.Line
	k    *lock.Locks
	l2   *admit.Line
	k2   *lock.Locks
	m    *model
	wide bool // whether all that is told is held against the twins, also of what calls would answer
}

func lineOf(t *testing.T, c api.Config) *admit.Line {
	t.Helper()
	l, e := admit.New(c)
	if e != api.OK {
		t.Fatalf("a line of %v: %d", c, e)
	}
	return l
}

func locksOf(t *testing.T, blocks int) *lock.Locks {
	t.Helper()
	k, e := lock.New(blocks)
	if e != api.OK {
		t.Fatalf("locks of %d: %d", blocks, e)
	}
	return k
}

func newWorld(t *testing.T, c api.Config) *world {
	t.Helper()
	return &world{t: t, l: lineOf(t, c), k: locksOf(t, c.Blocks), l2: lineOf(t, c), k2: locksOf(t, c.Blocks), m: &model{c: c}, wide: true}
}

func (w *world) copy() *world {
	return &world{w.t, w.l.Copy(), w.k.Copy(), w.l2.Copy(), w.k2.Copy(), w.m.copy(), w.wide}
}

// goes asks that a call was taken by both.
func (w *world) goes(call string, a, b api.Errno) {
	w.t.Helper()
	if a != api.OK || b != api.OK {
		w.t.Fatalf("%s: %d and %d", call, a, b)
	}
}

func (w *world) begin(set ...int) {
	w.t.Helper()
	n, form, e := w.l.Begin(set)
	_, _, f := w.l2.Begin(set)
	w.goes("Begin", e, f)
	w.m.all = append(w.m.all, entry{ticket: n, set: form, waiting: true})
	w.holds()
}

func (w *world) enter() {
	w.t.Helper()
	n, set, e := w.l.Enter()
	_, _, f := w.l2.Enter()
	w.goes("Enter", e, f)
	x := w.m.at(n)
	x.waiting, x.in = false, true
	w.holds()
	w.goes("Lay", w.k.Lay(n, set), w.k2.Lay(n, set))
	w.m.at(n).laid = true
	w.holds()
}

// take locks a ticket's next block, if it is Ready: no edge comes or goes by that.
func (w *world) take(n uint64) bool {
	w.t.Helper()
	if !w.k.Ready(n) {
		return false
	}
	_, e := w.k.Take(n)
	_, f := w.k2.Take(n)
	w.goes("Take", e, f)
	w.holds()
	return true
}

func (w *world) append(n uint64) {
	w.t.Helper()
	w.goes("Append", w.l.Append(n), w.l2.Append(n))
	w.m.at(n).appended++
	w.m.used++
	w.holds()
}

func (w *world) done(n uint64) {
	w.t.Helper()
	w.goes("Done", w.l.Done(n), w.l2.Done(n))
	w.m.at(n).in = false
	w.m.used++
	w.holds()
}

func (w *world) drop(n uint64) {
	w.t.Helper()
	_, e := w.k.Drop(n)
	_, f := w.k2.Drop(n)
	w.goes("Drop", e, f)
	w.m.at(n).laid = false
	w.holds()
}

// leave gives a ticket up.
func (w *world) leave(n uint64) {
	w.t.Helper()
	w.goes("Leave", w.l.Leave(n), w.l2.Leave(n))
	w.m.at(n).in = false
	w.holds()
	w.drop(n)
}

func (w *world) freed(n int) {
	w.t.Helper()
	w.goes("Freed", w.l.Freed(n), w.l2.Freed(n))
	w.m.used -= n
	w.holds()
}

// of holds Of against a list.
func (w *world) of(want ...waits.Edge) {
	w.t.Helper()
	ofs(w.t, w.l, w.k, want...)
}

// ofs holds Of of a line and of locks against a list, twice.
func ofs(t *testing.T, l *admit.Line, k *lock.Locks, want ...waits.Edge) {
	t.Helper()
	for range 2 {
		got, e := waits.Of(l, k)
		if e != api.OK || !slices.Equal(got, want) {
			t.Fatalf("Of = %v, %d, want %v", got, e, want)
		}
		spoil(got, atBlock(9, 99, 99))
	}
}

// holds asks for 15.1 and 15.5 as things stand: what Of tells, that each edge leads to a lesser ticket, that there is no ring, what the heights are, and that the least that is there is free; and that Of has changed nothing.
func (w *world) holds() {
	w.t.Helper()
	want := w.m.edges()
	w.of(want...)
	got, _ := waits.Of(w.l, w.k)
	for _, e := range got {
		if e.To >= e.From {
			w.t.Fatalf("%v leads to no lesser ticket", e)
		}
	}
	if ring := waits.Ring(got); len(ring) > 0 {
		w.t.Fatalf("Ring of %v = %v", got, ring)
	}
	heightsHold(w.t, got)
	there := w.m.there()
	free := waits.Free(got, there)
	if len(there) > 0 && (len(free) == 0 || free[0] != there[0]) {
		w.t.Fatalf("%d is the least that is there, free are %v", there[0], free)
	}
	w.same()
}

// heightsHold asks of edges without a ring that whoever waits for nobody has height 0, and each other one 1 more than the highest that it waits for; and that nobody else has one.
func heightsHold(t *testing.T, list []waits.Edge) {
	t.Helper()
	got, e := waits.Heights(list)
	if e != api.OK {
		t.Fatalf("Heights of %v: %d", list, e)
	}
	want := map[uint64]int{}
	for _, x := range list {
		want[x.To] += 0
		want[x.From] = max(want[x.From], 1+got[x.To])
	}
	if !maps.Equal(got, want) {
		t.Fatalf("Heights of %v = %v, want %v", list, got, want)
	}
}

// same holds all that the line and the locks tell against those of which Of was never asked.
func (w *world) same() {
	w.t.Helper()
	if a, b := lineText(w.l, w.m), lineText(w.l2, w.m); a != b {
		w.t.Fatalf("behind Of the line tells %s, without it %s", a, b)
	}
	if a, b := locksText(w.k, w.m), locksText(w.k2, w.m); a != b {
		w.t.Fatalf("behind Of the locks tell %s, without it %s", a, b)
	}
	if !w.wide {
		return
	}
	if a, b := w.answers(w.l, w.k), w.answers(w.l2, w.k2); a != b {
		w.t.Fatalf("behind Of the calls answer %s, without it %s", a, b)
	}
}

// lineText is all that a line tells.
func lineText(l *admit.Line, m *model) string {
	n, set, ok := l.First()
	text := fmt.Sprint(n, set, ok, l.Fits(), l.Used(), l.Reserved(), l.Waiting(), l.In())
	for _, x := range m.in() {
		left, ok := l.Left(x)
		text += fmt.Sprint(x, left, ok)
	}
	return text
}

// locksText is all that locks tell.
func locksText(k *lock.Locks, m *model) string {
	text := ""
	for b := range m.c.Blocks {
		n, ok := k.Holder(b)
		text += fmt.Sprint(k.Queue(b), n, ok, ";")
	}
	for n, set := range k.All() {
		b, more := k.Next(n)
		text += fmt.Sprint(n, set, b, more, k.Ready(n), k.Held(n), ";")
	}
	return text
}

// answers is what calls that change something would answer, each of a copy.
func (w *world) answers(l *admit.Line, k *lock.Locks) string {
	n, set, e := l.Copy().Begin([]int{0})
	text := fmt.Sprint(n, set, e)
	n, set, e = l.Copy().Enter()
	text += fmt.Sprint(n, set, e)
	for i := range len(w.m.all) + 2 {
		n := uint64(i)
		text += fmt.Sprint(l.Copy().Append(n), l.Copy().Done(n), l.Copy().Leave(n), k.Copy().Lay(n, []int{0}))
		b, e := k.Copy().Take(n)
		h, f := k.Copy().Drop(n)
		text += fmt.Sprint(b, e, h, f, ";")
	}
	return text
}

// plain is a configuration with room for a few.
var plain = api.Config{Blocks: 4, LogCap: 8, MaxRes: 4, High: 8, Clients: 4}

// widest is the greatest configuration.
var widest = api.Config{Blocks: 64, LogCap: 64, MaxRes: 16, High: 64, Clients: 8}

func TestP15_1_NilHandles(t *testing.T) {
	w := newWorld(t, plain)
	w.begin(0)
	w.enter()
	w.begin(0)
	w.enter()
	w.begin(0)
	for _, c := range []struct {
		name string
		l    *admit.Line
		k    *lock.Locks
	}{{"no line", nil, w.k}, {"no locks", w.l, nil}, {"neither", nil, nil}, {"no line and new locks", nil, locksOf(t, 1)}, {"a new line and no locks", lineOf(t, plain), nil}} {
		t.Run(c.name, func(t *testing.T) {
			if got, e := waits.Of(c.l, c.k); got != nil || e != api.ErrHandle {
				t.Errorf("Of = %v, %d, want ErrHandle", got, e)
			}
		})
	}
	w.holds()
}

func TestP15_1_WhyAndBlock(t *testing.T) {
	if waits.Line != 1 || waits.Room != 2 || waits.Lock != 3 {
		t.Errorf("Line, Room and Lock are %d, %d, %d", waits.Line, waits.Room, waits.Lock)
	}
	w := newWorld(t, api.Config{Blocks: 3, LogCap: 5, MaxRes: 3, High: 5, Clients: 4})
	w.begin(0, 2)
	w.begin(2)
	w.begin(1)
	w.begin(1)
	w.enter()
	w.enter()
	got, e := waits.Of(w.l, w.k)
	want := []waits.Edge{
		{From: 4, To: 3, Why: 1, Block: -1},
		{From: 3, To: 1, Why: 2, Block: -1},
		{From: 3, To: 2, Why: 2, Block: -1},
		{From: 2, To: 1, Why: 3, Block: 2},
	}
	if e != api.OK || !slices.Equal(got, want) {
		t.Errorf("Of = %v, %d, want %v", got, e, want)
	}
}

func TestP15_1_TheLine(t *testing.T) {
	w := newWorld(t, plain)
	w.of()
	w.begin(0)
	w.of()
	w.begin(0, 1)
	w.of(inLine(2, 1))
	w.begin(3)
	w.of(inLine(2, 1), inLine(3, 2))
	w.begin(0)
	w.begin(2)
	w.of(inLine(2, 1), inLine(3, 2), inLine(4, 3), inLine(5, 4))
	// Whoever is let in waits in the line no more, nor does anybody for it.
	w.enter()
	w.of(inLine(3, 2), inLine(4, 3), inLine(5, 4))
	w.enter()
	w.of(inLine(4, 3), inLine(5, 4), atBlock(0, 2, 1))
}

// use lets some go through until so many slots are used.
func (w *world) use(n int) {
	w.t.Helper()
	for w.m.used < n {
		// One that writes to all of its blocks uses just what it reserves.
		k := min(4, n-w.m.used)
		w.begin([]int{0, 1, 2, 3}[:max(k-1, 1)]...)
		w.enter()
		ticket := uint64(len(w.m.all))
		for range k - 1 {
			w.append(ticket)
		}
		w.done(ticket)
		w.drop(ticket)
	}
}

func TestP15_1_TheFirstFitsOrNot(t *testing.T) {
	for _, c := range []struct {
		name string
		in   int // so many are in, with a reservation of 2 each
		used int
		set  []int // of the one in the line
		fits bool
	}{
		{"nobody is in, all is free", 0, 0, []int{0, 1, 2, 3}, true},
		{"nobody is in, it just fits", 0, 4, []int{0, 1, 2}, true},
		{"nobody is in, one is too many", 0, 4, []int{0, 1, 2, 3}, false},
		{"nobody is in, all is used", 0, 8, []int{0}, false},
		{"one is in, it fits", 1, 0, []int{0}, true},
		{"one is in, it just fits", 1, 1, []int{0, 1, 2, 3}, true},
		{"one is in, one is too many", 1, 2, []int{0, 1, 2, 3}, false},
		{"one is in, the others are used", 1, 6, []int{0}, false},
		{"two are in, it just fits", 2, 1, []int{0, 1}, true},
		{"two are in, one is too many", 2, 2, []int{0, 1}, false},
		{"many are in, it just fits", 3, 0, []int{0}, true},
		{"many are in, one is too many", 3, 1, []int{0}, false},
		{"as many are in as can be", 4, 0, []int{0}, false},
	} {
		t.Run(c.name, func(t *testing.T) {
			w := newWorld(t, plain)
			w.use(c.used)
			for i := range c.in {
				w.begin(i)
				w.enter()
			}
			w.of()
			w.begin(c.set...)
			if w.l.Used() != c.used || len(w.l.In()) != c.in || w.l.Fits() != c.fits {
				t.Fatalf("the line is not as the case says it: %s", lineText(w.l, w.m))
			}
			n := uint64(len(w.m.all))
			var want []waits.Edge
			for i := c.in; i > 0 && !c.fits; i-- {
				want = append(want, forRoom(n, n-uint64(i)))
			}
			w.of(want...)
			// Only the first one waits for room, however many stand behind it.
			w.begin(0)
			w.of(append([]waits.Edge{inLine(n+1, n)}, want...)...)
		})
	}
}

func TestP15_1_RoomGoesByWhatIsReserved(t *testing.T) {
	w := newWorld(t, plain)
	w.begin(0, 1, 2)
	w.begin(3)
	w.begin(0, 1, 2)
	w.enter()
	w.enter()
	both := []waits.Edge{forRoom(3, 1), forRoom(3, 2)}
	w.of(both...)
	// Whoever has appended images still has room reserved; whoever has appended its commit has none, and stands in its queues.
	w.append(1)
	w.append(1)
	w.append(1)
	w.of(both...)
	w.done(1)
	w.of(forRoom(3, 2))
	w.drop(1)
	w.of(forRoom(3, 2))
	// Nobody has room reserved: then there is nobody to wait for, though it does not fit.
	w.append(2)
	w.done(2)
	w.drop(2)
	w.of()
	if w.l.Fits() {
		t.Fatal("it fits")
	}
	w.freed(2)
	w.of()
	if !w.l.Fits() {
		t.Fatal("it does not fit")
	}
	w.enter()
	w.of()
}

func TestP15_1_RoomAndLeave(t *testing.T) {
	w := newWorld(t, plain)
	w.begin(0, 1, 2)
	w.begin(1, 2)
	w.begin(2, 3)
	w.enter()
	w.enter()
	queues := []waits.Edge{atBlock(1, 2, 1), atBlock(2, 2, 1)}
	w.of(append([]waits.Edge{forRoom(3, 1), forRoom(3, 2)}, queues...)...)
	w.leave(2)
	w.of()
	w.enter()
	w.of(atBlock(2, 3, 1))
}

func TestP15_1_Queues(t *testing.T) {
	w := newWorld(t, widest)
	w.of()
	w.begin(0)
	w.enter()
	w.of()
	w.begin(63)
	w.enter()
	w.of()
	w.begin(0, 63)
	w.enter()
	w.of(atBlock(0, 3, 1), atBlock(63, 3, 2))
	w.begin(5, 7, 63)
	w.enter()
	w.of(atBlock(0, 3, 1), atBlock(63, 3, 2), atBlock(63, 4, 3))
	w.begin(0, 5, 7)
	w.enter()
	w.of(atBlock(0, 3, 1), atBlock(0, 5, 3), atBlock(5, 5, 4), atBlock(7, 5, 4), atBlock(63, 3, 2), atBlock(63, 4, 3))
	// What a ticket has locked makes no difference: it stands there until it is dropped.
	for w.take(1) || w.take(2) || w.take(4) {
	}
	w.of(atBlock(0, 3, 1), atBlock(0, 5, 3), atBlock(5, 5, 4), atBlock(7, 5, 4), atBlock(63, 3, 2), atBlock(63, 4, 3))
	// One in the midst goes: the one behind it stands behind the one ahead of it.
	w.leave(3)
	w.of(atBlock(0, 5, 1), atBlock(5, 5, 4), atBlock(7, 5, 4), atBlock(63, 4, 2))
	w.leave(1)
	w.of(atBlock(5, 5, 4), atBlock(7, 5, 4), atBlock(63, 4, 2))
	w.leave(5)
	w.of(atBlock(63, 4, 2))
	w.leave(2)
	w.of()
}

func TestP15_1_EachBlockAlone(t *testing.T) {
	for _, blocks := range []int{1, 2, 7, 63, 64} {
		for b := range blocks {
			l, k := lineOf(t, widest), locksOf(t, blocks)
			ofs(t, l, k)
			for n := uint64(1); n <= 3; n++ {
				if e := k.Lay(n, []int{b}); e != api.OK {
					t.Fatal(e)
				}
			}
			ofs(t, l, k, atBlock(b, 2, 1), atBlock(b, 3, 2))
		}
	}
}

func TestP15_1_AllBlocksAtOnce(t *testing.T) {
	k := locksOf(t, 64)
	var all []int
	for b := range 64 {
		all = append(all, b)
	}
	var want []waits.Edge
	for _, n := range []uint64{3, 9, most} {
		if e := k.Lay(n, all); e != api.OK {
			t.Fatal(e)
		}
	}
	for b := range 64 {
		want = append(want, atBlock(b, 9, 3), atBlock(b, most, 9))
	}
	ofs(t, lineOf(t, widest), k, want...)
}

func TestP15_1_OrderOfTheEdges(t *testing.T) {
	// All three kinds, several of each; lines and queues from the front on, blocks rising.
	w := newWorld(t, api.Config{Blocks: 5, LogCap: 9, MaxRes: 3, High: 9, Clients: 8})
	for _, set := range [][]int{{4, 1}, {1, 0}, {4, 0}, {0, 1, 2}, {3}, {2}, {4}} {
		w.begin(set...)
	}
	w.enter()
	w.enter()
	w.enter()
	w.of(
		inLine(5, 4), inLine(6, 5), inLine(7, 6),
		forRoom(4, 1), forRoom(4, 2), forRoom(4, 3),
		atBlock(0, 3, 2), atBlock(1, 2, 1), atBlock(4, 3, 1),
	)
}

func TestP15_1_OfOthersThatDoNotBelongTogether(t *testing.T) {
	// A line with tickets that the locks do not know, locks with tickets and blocks that the line does not know: each is told as it stands.
	c := api.Config{Blocks: 2, LogCap: 3, MaxRes: 2, High: 3, Clients: 1}
	l, k := lineOf(t, c), locksOf(t, 64)
	for _, set := range [][]int{{0, 1}, {0}, {1}} {
		if _, _, e := l.Begin(set); e != api.OK {
			t.Fatal(e)
		}
	}
	if _, _, e := l.Enter(); e != api.OK {
		t.Fatal(e)
	}
	for _, n := range []uint64{1, 3, 1 << 63, most} {
		if e := k.Lay(n, []int{1, 2, 63}); e != api.OK {
			t.Fatal(e)
		}
	}
	line := []waits.Edge{inLine(3, 2), forRoom(2, 1)}
	var queues []waits.Edge
	for _, b := range []int{1, 2, 63} {
		queues = append(queues, atBlock(b, 3, 1), atBlock(b, 1<<63, 3), atBlock(b, most, 1<<63))
	}
	ofs(t, l, k, append(line, queues...)...)
	ofs(t, l, locksOf(t, 1), line...)
	ofs(t, lineOf(t, c), k, queues...)
	ofs(t, lineOf(t, c), locksOf(t, 1))
}

// steps tells all calls that may be done with a world of two blocks.
func (w *world) steps() []func(*world) {
	list := []func(*world){
		func(w *world) { w.begin(0) },
		func(w *world) { w.begin(1, 0) },
	}
	if w.l.Fits() {
		list = append(list, func(w *world) { w.enter() })
	}
	for _, n := range w.m.in() {
		if x := w.m.at(n); x.appended < len(x.set) {
			list = append(list, func(w *world) { w.append(n) })
		}
		list = append(list, func(w *world) { w.done(n) })
		if w.m.at(n).appended == 0 {
			list = append(list, func(w *world) { w.leave(n) })
		}
	}
	for _, n := range w.m.laid() {
		if !w.m.at(n).in {
			list = append(list, func(w *world) { w.drop(n) })
		}
	}
	if w.m.used > 0 {
		list = append(list, func(w *world) { w.freed(1) })
	}
	return list
}

func TestP15_5_EveryShortRun(t *testing.T) {
	var run func(w *world, more int) int
	run = func(w *world, more int) int {
		runs := 1
		if more == 0 {
			return runs
		}
		for _, step := range w.steps() {
			twin := w.copy()
			step(twin)
			runs += run(twin, more-1)
		}
		return runs
	}
	w := newWorld(t, api.Config{Blocks: 2, LogCap: 5, MaxRes: 2, High: 5, Clients: 8})
	w.holds()
	if runs := run(w, 7); runs < 10000 {
		t.Errorf("%d runs alone were tried", runs)
	}
}

// set tells a set of 1 to many of so many blocks, in any order and with doubles.
func (c *chance) set(blocks, many int) []int {
	var set []int
	for range 1 + c.below(many) {
		set = append(set, c.below(blocks))
	}
	return set
}

// one tells one of a list at random; false: there is none.
func (c *chance) one(list []uint64) (uint64, bool) {
	if len(list) == 0 {
		return 0, false
	}
	return list[c.below(len(list))], true
}

// step does one call at random, if it may be done.
func (w *world) step(c *chance, crowd int) {
	w.t.Helper()
	in, inOK := c.one(w.m.in())
	laid, laidOK := c.one(w.m.laid())
	switch k := c.below(12); {
	case k < 3 && len(w.m.waiting()) < crowd:
		w.begin(c.set(w.m.c.Blocks, w.m.c.MaxRes)...)
	case k < 6 && w.l.Fits():
		w.enter()
	case k == 6 && inOK:
		if x := w.m.at(in); x.appended < len(x.set) {
			w.append(in)
		}
	case k == 7 && inOK:
		w.done(in)
	case k == 8 && laidOK && !w.m.at(laid).in:
		w.drop(laid)
	case k == 9 && inOK && w.m.at(in).appended == 0 && c.below(3) == 0:
		w.leave(in)
	case k == 10 && w.m.used > 0:
		w.freed(1 + c.below(w.m.used))
	case laidOK:
		w.take(laid)
	}
}

// drain lets all that are there go through to the end, the least first: it is free, so it never waits.
func (w *world) drain() {
	w.t.Helper()
	for len(w.m.there()) > 0 {
		n := w.m.there()[0]
		x := w.m.at(n)
		switch {
		case x.waiting && !w.l.Fits():
			w.freed(w.m.used)
		case x.waiting:
			w.enter()
		case w.take(n):
		case x.in:
			w.done(n)
		default:
			if len(w.k.Held(n)) < len(x.set) {
				w.t.Fatalf("%d has locked %v of %v alone", n, w.k.Held(n), x.set)
			}
			w.drop(n)
		}
	}
	w.of()
}

func TestP15_5_LongRunsWithManyTickets(t *testing.T) {
	for _, c := range []struct {
		config api.Config
		crowd  int
		calls  int
	}{
		{api.Config{Blocks: 1, LogCap: 2, MaxRes: 1, High: 1, Clients: 1}, 30, 1500},
		{api.Config{Blocks: 2, LogCap: 3, MaxRes: 2, High: 3, Clients: 2}, 20, 1500},
		{api.Config{Blocks: 8, LogCap: 16, MaxRes: 4, High: 12, Clients: 3}, 40, 2000},
		{api.Config{Blocks: 3, LogCap: 64, MaxRes: 1, High: 64, Clients: 8}, 60, 2000},
		{api.Config{Blocks: 64, LogCap: 64, MaxRes: 2, High: 64, Clients: 8}, 60, 2000},
		{widest, 100, 2000},
	} {
		t.Run(fmt.Sprint(c.config), func(t *testing.T) {
			luck := chance(1505)
			w := newWorld(t, c.config)
			w.wide = false
			for i := range c.calls {
				w.step(&luck, c.crowd)
				if i%200 == 0 {
					w.wide = true
					w.holds()
					w.wide = false
				}
			}
			w.drain()
		})
	}
}

func TestP15_5_AVeryLongLineAndQueue(t *testing.T) {
	const many = 20000
	l, k := lineOf(t, widest), locksOf(t, 2)
	for n := range uint64(many) {
		if _, _, e := l.Begin([]int{0}); e != api.OK {
			t.Fatal(e)
		}
		if e := k.Lay(n+1, []int{0, 1}); e != api.OK {
			t.Fatal(e)
		}
	}
	got, e := waits.Of(l, k)
	if e != api.OK || len(got) != 3*(many-1) {
		t.Fatalf("%d edges, %d", len(got), e)
	}
	rings(t, got)
	heights, e := waits.Heights(got)
	if e != api.OK || len(heights) != many {
		t.Fatalf("%d heights, %d", len(heights), e)
	}
	for n, h := range heights {
		if uint64(h) != n-1 {
			t.Fatalf("the height of %d is %d", n, h)
		}
	}
	frees(t, got, []uint64{many, 2, 1}, 1)
}

// shape is edges with what is told of them.
type shape struct {
	name    string
	edges   []waits.Edge
	ring    []uint64
	heights map[uint64]int // nil: there is a ring
}

func shapes() []shape {
	return []shape{
		{"no edges", []waits.Edge{}, nil, map[uint64]int{}},
		{"nil", nil, nil, map[uint64]int{}},
		{"one edge", edges(2, 1), nil, map[uint64]int{1: 0, 2: 1}},
		{"one edge to a greater one", edges(1, 2), nil, map[uint64]int{1: 1, 2: 0}},
		{"to itself", edges(1, 1), []uint64{1}, nil},
		{"0 to itself", edges(0, 0), []uint64{0}, nil},
		{"the greatest to itself", edges(most, most), []uint64{most}, nil},
		{"to itself twice", edges(4, 4, 4, 4), []uint64{4}, nil},
		{"to itself at the end of a chain", edges(1, 2, 2, 3, 3, 3), []uint64{3}, nil},
		{"to itself at the beginning of a chain", edges(1, 2, 2, 3, 1, 1), []uint64{1}, nil},
		{"to itself in the midst of a chain", edges(1, 2, 2, 3, 2, 2), []uint64{2}, nil},
		{"the same edge twice", edges(3, 2, 3, 2), nil, map[uint64]int{2: 0, 3: 1}},
		{"the same edge often, in a chain", edges(3, 2, 2, 1, 3, 2, 2, 1, 3, 2), nil, map[uint64]int{1: 0, 2: 1, 3: 2}},
		{"the same edges twice, in a ring", edges(3, 2, 3, 2, 2, 3, 2, 3), []uint64{2, 3}, nil},
		{"edges that differ in Why alone", []waits.Edge{inLine(2, 1), forRoom(2, 1), {From: 2, To: 1, Why: 77, Block: -1}}, nil, map[uint64]int{1: 0, 2: 1}},
		{"edges that differ in Block alone", []waits.Edge{atBlock(0, 2, 1), atBlock(63, 2, 1), atBlock(math.MinInt, 2, 1), atBlock(math.MaxInt, 2, 1)}, nil, map[uint64]int{1: 0, 2: 1}},
		{"edges of all kinds, in a chain", []waits.Edge{atBlock(3, 2, 1), forRoom(3, 2), inLine(4, 3)}, nil, map[uint64]int{1: 0, 2: 1, 3: 2, 4: 3}},
		{"edges of all kinds, in a ring", []waits.Edge{atBlock(3, 2, 4), forRoom(3, 2), inLine(4, 3)}, []uint64{2, 4, 3}, nil},
		{"edges with no Why and block 0", []waits.Edge{{From: 1, To: 2}, {From: 2, To: 1}}, []uint64{1, 2}, nil},
		{"a ring of two", edges(7, 3, 3, 7), []uint64{3, 7}, nil},
		{"a ring of three, rising", edges(1, 2, 2, 3, 3, 1), []uint64{1, 2, 3}, nil},
		{"a ring of three, falling", edges(3, 2, 2, 1, 1, 3), []uint64{1, 3, 2}, nil},
		{"a ring with 0 and the greatest", edges(0, most, most, 0), []uint64{0, most}, nil},
		{"a ring of tickets with the same lower halves", edges(1, 1<<32+1, 1<<32+1, 1<<63+1, 1<<63+1, 1), []uint64{1, 1<<32 + 1, 1<<63 + 1}, nil},
		{"a chain of 0 and the greatest", edges(most, 0), nil, map[uint64]int{0: 0, most: 1}},
		{"a chain from 0 to the greatest", edges(0, 5, 5, most), nil, map[uint64]int{0: 2, 5: 1, most: 0}},
		{"tickets with the same lower halves", edges(1, 1<<32+1, 1<<32+1, 1<<63+1), nil, map[uint64]int{1: 2, 1<<32 + 1: 1, 1<<63 + 1: 0}},
		{"two rings that share nothing", edges(5, 6, 6, 5, 3, 9, 9, 3), []uint64{3, 9}, nil},
		{"a short ring of greater ones, a long one of lesser ones", edges(5, 5, 1, 9, 9, 8, 8, 7, 7, 1), []uint64{1, 9, 8, 7}, nil},
		{"two rings that share the least", edges(1, 5, 5, 1, 1, 4, 4, 1), []uint64{1, 4}, nil},
		{"two rings that share the least, the greater one shorter", edges(1, 2, 2, 3, 3, 1, 1, 9, 9, 1), []uint64{1, 9}, nil},
		{"two rings that share a greater one", edges(5, 2, 2, 5, 5, 3, 3, 5), []uint64{2, 5}, nil},
		{"three rings in a chain", edges(1, 2, 2, 1, 2, 3, 3, 2, 3, 4, 4, 3), []uint64{1, 2}, nil},
		{"a ring within a ring", edges(1, 2, 2, 3, 3, 4, 4, 1, 3, 1), []uint64{1, 2, 3}, nil},
		{"a ring and the least to itself", edges(1, 2, 2, 1, 1, 1), []uint64{1}, nil},
		{"a ring and another one to itself", edges(1, 2, 2, 1, 2, 2), []uint64{1, 2}, nil},
		{"equally long ones, different at the second", edges(1, 7, 1, 6, 7, 2, 6, 9, 2, 1, 9, 1), []uint64{1, 6, 9}, nil},
		{"equally long ones, different at the third", edges(1, 7, 7, 9, 7, 5, 9, 1, 5, 1), []uint64{1, 7, 5}, nil},
		{"equally long ones, different at the last", edges(1, 2, 2, 3, 3, 9, 3, 8, 9, 1, 8, 1), []uint64{1, 2, 3, 8}, nil},
		{"the least second leads nowhere", edges(1, 2, 2, 3, 1, 5, 5, 1), []uint64{1, 5}, nil},
		{"the least second leads a longer way", edges(1, 2, 2, 3, 3, 4, 4, 1, 1, 6, 6, 5, 5, 1), []uint64{1, 6, 5}, nil},
		{"the least second goes the same way", edges(1, 3, 1, 4, 3, 5, 4, 2, 5, 1, 2, 1), []uint64{1, 3, 5}, nil},
		{"by lists, not by texts", edges(1, 10, 10, 1, 1, 9, 9, 1), []uint64{1, 9}, nil},
		{"by numbers without a sign", edges(1, most, most, 1, 1, 5, 5, 1), []uint64{1, 5}, nil},
		{"one that leads into a ring", edges(1, 5, 5, 6, 6, 5), []uint64{5, 6}, nil},
		{"a chain that leads into a ring", edges(1, 2, 2, 3, 3, 5, 5, 6, 6, 5), []uint64{5, 6}, nil},
		{"one that a ring leads to", edges(5, 6, 6, 5, 5, 1), []uint64{5, 6}, nil},
		{"one between two rings", edges(5, 6, 6, 5, 5, 1, 1, 7, 7, 8, 8, 7), []uint64{5, 6}, nil},
		{"some between two rings", edges(7, 8, 8, 7, 8, 1, 8, 2, 1, 3, 2, 3, 3, 5, 5, 6, 6, 5), []uint64{5, 6}, nil},
		{"a ring that the walk meets late", edges(1, 2, 1, 3, 3, 4, 4, 3, 2, 4), []uint64{3, 4}, nil},
		{"edges across, and no ring", edges(1, 2, 1, 3, 2, 4, 3, 4, 3, 2), nil, map[uint64]int{1: 3, 2: 1, 3: 2, 4: 0}},
		{"ways of different lengths", edges(4, 1, 4, 3, 3, 2, 2, 1), nil, map[uint64]int{1: 0, 2: 1, 3: 2, 4: 3}},
		{"the longest way is not that of the greatest", edges(9, 8, 9, 2, 2, 3, 3, 4), nil, map[uint64]int{2: 2, 3: 1, 4: 0, 8: 0, 9: 3}},
		{"two chains of different lengths", edges(3, 2, 2, 1, 9, 8), nil, map[uint64]int{1: 0, 2: 1, 3: 2, 8: 0, 9: 1}},
		{"many wait for one", edges(2, 1, 3, 1, 4, 1, 5, 1), nil, map[uint64]int{1: 0, 2: 1, 3: 1, 4: 1, 5: 1}},
		{"one waits for many", edges(5, 1, 5, 2, 5, 3, 5, 4), nil, map[uint64]int{1: 0, 2: 0, 3: 0, 4: 0, 5: 1}},
	}
}

func TestP15_2_RingOfEachShape(t *testing.T) {
	for _, s := range shapes() {
		t.Run(s.name, func(t *testing.T) {
			rings(t, s.edges, s.ring...)
		})
	}
}

func TestP15_3_HeightsOfEachShape(t *testing.T) {
	for _, s := range shapes() {
		t.Run(s.name, func(t *testing.T) {
			rises(t, s.edges, s.heights)
			if s.heights != nil {
				heightsHold(t, s.edges)
			}
		})
	}
}

func TestP15_2_ShapesInOtherOrders(t *testing.T) {
	c := chance(152)
	for _, s := range shapes() {
		t.Run(s.name, func(t *testing.T) {
			for range 40 {
				list := c.shuffled(s.edges)
				// Edges come twice, for other reasons, and nothing changes.
				for _, e := range s.edges {
					if c.below(3) == 0 {
						list = append(list, atBlock(c.below(64), e.From, e.To))
					}
				}
				list = c.shuffled(list)
				rings(t, list, s.ring...)
				rises(t, list, s.heights)
				judged(t, list)
			}
		})
	}
}

// pairsOf tells the edges between some tickets that a number names by its bits.
func pairsOf(names []uint64, bits int) []waits.Edge {
	var list []waits.Edge
	for i, from := range names {
		for j, to := range names {
			if bits>>(i*len(names)+j)&1 == 1 {
				list = append(list, inLine(from, to))
			}
		}
	}
	return list
}

func TestP15_2_AllEdgesOfFewTickets(t *testing.T) {
	for _, names := range [][]uint64{{1}, {1, 2}, {0, most}, {5, 1, 9}, {most, 0, 1 << 63}, {1, 2, 3, 4}, {1 << 63, 0, most, 7}} {
		t.Run(fmt.Sprint(names), func(t *testing.T) {
			for bits := range 1 << (len(names) * len(names)) {
				judged(t, pairsOf(names, bits))
			}
		})
	}
}

func TestP15_2_AtRandom(t *testing.T) {
	c := chance(1523)
	names := []uint64{0, 1, 2, 3, 9, 10, 1 << 32, 1<<63 - 1, 1 << 63, most - 1, most}
	for range 4000 {
		some := names
		if c.below(2) == 0 {
			some = names[:3+c.below(4)]
		}
		var list []waits.Edge
		for range c.below(14) {
			from, _ := c.one(some)
			to, _ := c.one(some)
			list = append(list, waits.Edge{From: from, To: to, Why: c.below(5), Block: c.below(9) - 2})
		}
		judged(t, list)
		judged(t, c.shuffled(list))
	}
}

// permuted does something with the edges in each order.
func permuted(list []waits.Edge, at int, do func([]waits.Edge)) {
	if at == len(list) {
		do(list)
		return
	}
	for i := at; i < len(list); i++ {
		list[at], list[i] = list[i], list[at]
		permuted(list, at+1, do)
		list[at], list[i] = list[i], list[at]
	}
}

func TestP15_2_EveryOrderOfTheEdges(t *testing.T) {
	for _, list := range [][]waits.Edge{
		edges(1, 5, 5, 2, 5, 9, 2, 5, 9, 1),
		edges(2, 4, 4, 2, 1, 2, 4, 3, 3, 2),
		edges(1, 3, 1, 4, 3, 5, 4, 5, 5, 1, 3, 2, 2, 1),
		edges(7, 8, 8, 7, 7, 1, 1, 5, 5, 6, 6, 5),
		edges(4, 1, 4, 3, 3, 2, 2, 1, 4, 2),
	} {
		ring := ringOf(list)
		heights, e := waits.Heights(list)
		permuted(slices.Clone(list), 0, func(other []waits.Edge) {
			rings(t, other, ring...)
			if got, f := waits.Heights(other); f != e || !maps.Equal(got, heights) {
				t.Fatalf("Heights of %v = %v, %d, want %v, %d", other, got, f, heights, e)
			}
		})
	}
}

// chain tells edges from each of so many tickets, beginning with one, to the next one.
func chain(first uint64, many int) []waits.Edge {
	var list []waits.Edge
	for i := range uint64(many - 1) {
		list = append(list, inLine(first+i, first+i+1))
	}
	return list
}

// reversed tells the edges the other way round.
func reversed(list []waits.Edge) []waits.Edge {
	var other []waits.Edge
	for _, e := range list {
		other = append(other, inLine(e.To, e.From))
	}
	return other
}

func TestP15_2_LongChainsAndRings(t *testing.T) {
	// With a small stack, so that nothing goes as deep as a chain is long.
	defer debug.SetMaxStack(debug.SetMaxStack(1 << 20))
	c := chance(1524)
	const many = 200000
	up := chain(1, many)
	heights, falling := map[uint64]int{}, map[uint64]int{}
	var rising []uint64
	for n := uint64(1); n <= many; n++ {
		heights[n], falling[n] = int(many-n), int(n-1)
		rising = append(rising, n)
	}
	for range 2 {
		rings(t, up)
		rises(t, up, heights)
		down := reversed(up)
		rings(t, down)
		rises(t, down, falling)
		ring := append(slices.Clone(up), inLine(many, 1))
		rings(t, ring, rising...)
		rises(t, ring, nil)
		back := append([]uint64{1}, rising[1:]...)
		slices.Reverse(back[1:])
		rings(t, reversed(ring), back...)
		rises(t, reversed(ring), nil)
		// The last of a long chain stands on a ring with another one.
		late := append(slices.Clone(up), inLine(many, many-1))
		rings(t, late, many-1, many)
		rises(t, late, nil)
		up = c.shuffled(up)
	}
}

func TestP15_3_ManyChainsThatComeTogether(t *testing.T) {
	defer debug.SetMaxStack(debug.SetMaxStack(1 << 20))
	// A hundred chains, the first of one ticket, the last of a hundred, lead to one ticket, and from there a chain goes on.
	const many, meet = 100, 1000000
	list := chain(meet, 51)
	want := map[uint64]int{}
	for i := range uint64(51) {
		want[meet+i] = int(50 - i)
	}
	for i := range uint64(many) {
		first := 1000 * (i + 1)
		list = append(list, chain(first, int(i)+1)...)
		list = append(list, inLine(first+i, meet))
		for j := range i + 1 {
			want[first+j] = int(50 + 1 + i - j)
		}
	}
	c := chance(153)
	for range 3 {
		rings(t, list)
		rises(t, list, want)
		list = c.shuffled(list)
	}
	rings(t, append(list, inLine(meet+50, meet+20)), chainOf(meet+20, 31)...)
	rises(t, append(list, inLine(meet+50, meet+20)), nil)
}

// chainOf tells so many tickets, beginning with one.
func chainOf(first uint64, many int) []uint64 {
	var list []uint64
	for i := range uint64(many) {
		list = append(list, first+i)
	}
	return list
}

func TestP15_3_MoreWaysThanCanBeGone(t *testing.T) {
	// Each of a layer's three waits for all of the next layer's: there are 3 to the 200th chains.
	const layers = 200
	var list []waits.Edge
	want := map[uint64]int{}
	for i := range uint64(layers) {
		for a := range uint64(3) {
			want[3*i+a] = int(layers - 1 - i)
			for b := range uint64(3) {
				if i+1 < layers {
					list = append(list, inLine(3*i+a, 3*(i+1)+b))
				}
			}
		}
	}
	rings(t, list)
	rises(t, list, want)
	// Back from the last layer's last one: of all ways the one by the first of each layer.
	list = append(list, inLine(3*layers-1, 0))
	var ring []uint64
	for i := range uint64(layers - 1) {
		ring = append(ring, 3*i)
	}
	rings(t, list, append(ring, 3*layers-1)...)
	rises(t, list, nil)
}

func TestP15_3_EachWaitsForAllLesserOnes(t *testing.T) {
	const many = 400
	var list []waits.Edge
	want := map[uint64]int{}
	for n := range uint64(many) {
		want[n] = int(n)
		for lesser := range n {
			list = append(list, inLine(n, lesser))
		}
	}
	rings(t, list)
	rises(t, list, want)
	rings(t, append(list, inLine(0, many-1)), 0, many-1)
	rings(t, append(list, inLine(7, 9)), 7, 9)
	// And each for all others: many rings, of which the least two are told.
	rings(t, append(slices.Clone(list), reversed(list)...), 0, 1)
	rises(t, append(list, reversed(list)...), nil)
}

func TestP15_2_ManyBetweenTwoRings(t *testing.T) {
	// All the lesser tickets stand on ways from one ring to another one, and none of them on a ring.
	const many = 30000
	a, b := uint64(many+1), uint64(many+3)
	list := edges(a, a+1, a+1, a, b, b+1, b+1, b)
	for n := uint64(1); n <= many; n++ {
		list = append(list, inLine(a, n), inLine(n, b))
		if n%3 == 0 {
			list = append(list, inLine(n, n-1))
		}
	}
	rings(t, list, a, a+1)
	rings(t, reversed(list), a, a+1)
	rises(t, list, nil)
	rings(t, append(list, inLine(many, many-2), inLine(many-2, many)), many-2, many)
}

func TestP15_2_ManyRings(t *testing.T) {
	// Rings of two, each of which leads to that of lesser tickets; the least is told.
	c := chance(1525)
	const many = 20000
	var list []waits.Edge
	for n := uint64(many); n > 0; n-- {
		list = append(list, inLine(2*n, 2*n+1), inLine(2*n+1, 2*n))
		if n > 1 {
			list = append(list, inLine(2*n, 2*n-1))
		}
	}
	rings(t, list, 2, 3)
	rings(t, reversed(list), 2, 3)
	rings(t, c.shuffled(list), 2, 3)
}

func TestP15_4_Free(t *testing.T) {
	list := []waits.Edge{inLine(3, 2), forRoom(5, 2), forRoom(5, 3), atBlock(7, 9, 8), inLine(most, 0), inLine(6, 6)}
	for _, c := range []struct {
		name  string
		edges []waits.Edge
		asked []uint64
		want  []uint64
	}{
		{"no tickets", list, nil, nil},
		{"an empty list of tickets", list, []uint64{}, nil},
		{"no edges", nil, []uint64{4, 0, most, 4}, []uint64{4, 0, most, 4}},
		{"neither", nil, nil, nil},
		{"tickets in no edge", list, []uint64{77, 1, 4, 1 << 63}, []uint64{77, 1, 4, 1 << 63}},
		{"tickets that only others wait for", list, []uint64{8, 2, 0}, []uint64{8, 2, 0}},
		{"tickets that wait", list, []uint64{3, 5, 9, most}, nil},
		{"one that waits and is waited for", list, []uint64{3}, nil},
		{"one that waits for itself", list, []uint64{6}, nil},
		{"some of each", list, []uint64{9, 8, 77, 3, 2, 5, 0, most, 6}, []uint64{8, 77, 2, 0}},
		{"falling", list, []uint64{most, 9, 8, 7, 6, 5, 4, 3, 2, 1, 0}, []uint64{8, 7, 4, 2, 1, 0}},
		{"rising", list, []uint64{0, 1, 2, 3, 4, 5, 6, 7, 8, 9, most}, []uint64{0, 1, 2, 4, 7, 8}},
		{"a free one twice", list, []uint64{2, 2}, []uint64{2, 2}},
		{"one that waits twice", list, []uint64{3, 3}, nil},
		{"twice, with others between", list, []uint64{2, 3, 8, 2, 3, 77, 8, 77}, []uint64{2, 8, 2, 77, 8, 77}},
		{"0, which waits", edges(0, 1), []uint64{0, 1}, []uint64{1}},
		{"0, in no edge", edges(2, 1), []uint64{0}, []uint64{0}},
		{"the greatest, which waits", edges(most, 1), []uint64{most, most - 1}, []uint64{most - 1}},
		{"tickets with the same lower halves", edges(1<<32+1, 1<<33+1), []uint64{1, 1<<32 + 1, 1<<33 + 1}, []uint64{1, 1<<33 + 1}},
		{"all of a ring", edges(1, 2, 2, 1), []uint64{1, 2}, nil},
		{"an edge with no Why", []waits.Edge{{From: 4, To: 5}}, []uint64{4, 5}, []uint64{5}},
	} {
		t.Run(c.name, func(t *testing.T) {
			frees(t, c.edges, c.asked, c.want...)
			luck := chance(154)
			frees(t, luck.shuffled(c.edges), c.asked, c.want...)
			frees(t, append(slices.Clone(c.edges), c.edges...), c.asked, c.want...)
		})
	}
}

func TestP15_4_FreeAtRandom(t *testing.T) {
	c := chance(1541)
	for range 3000 {
		var list []waits.Edge
		for range c.below(8) {
			list = append(list, atBlock(c.below(4), uint64(c.below(10)), uint64(c.below(10))))
		}
		var asked []uint64
		for range c.below(14) {
			asked = append(asked, uint64(c.below(12)))
		}
		frees(t, list, asked, freeOf(list, asked)...)
	}
}

func TestP15_4_FreeOfMany(t *testing.T) {
	const many = 200000
	list := chain(1, many)
	asked := chainOf(1, many+2)
	frees(t, list, asked, many, many+1, many+2)
	slices.Reverse(asked)
	frees(t, list, asked, many+2, many+1, many)
}

func TestP15_6_AllFallingEdgesOfFewTickets(t *testing.T) {
	names := []uint64{0, 3, 4, 1 << 63, most}
	var all []waits.Edge
	for i := range names {
		for j := range i {
			all = append(all, inLine(names[i], names[j]))
		}
	}
	for bits := range 1 << len(all) {
		var list []waits.Edge
		for i, e := range all {
			if bits>>i&1 == 1 {
				list = append(list, e)
			}
		}
		rings(t, list)
		heightsHold(t, list)
		judged(t, list)
		if len(list) > 0 {
			least := tickets(list)[0]
			frees(t, list, []uint64{least}, least)
		}
	}
}

func TestP15_6_FallingEdgesAtRandom(t *testing.T) {
	c := chance(156)
	for _, many := range []int{2, 10, 100, 3000} {
		for _, span := range []uint64{3, 50, 1 << 20, most} {
			for range 20 {
				var list []waits.Edge
				for range many {
					from := 1 + c.next()%(span-1)
					list = append(list, waits.Edge{From: from, To: c.next() % from, Why: c.below(4), Block: c.below(4) - 1})
				}
				rings(t, list)
				heightsHold(t, list)
				// One edge that does not fall makes a ring, if it leads back.
				e := list[c.below(many)]
				if r := waits.Ring(append(list, inLine(e.To, e.From))); len(r) == 0 {
					t.Fatalf("no ring is told with %v both ways", e)
				}
			}
		}
	}
}

func TestR3_ListsHandedOut(t *testing.T) {
	w := newWorld(t, api.Config{Blocks: 3, LogCap: 5, MaxRes: 3, High: 5, Clients: 4})
	for _, set := range [][]int{{0, 2}, {2}, {1}, {1}} {
		w.begin(set...)
	}
	w.enter()
	w.enter()
	want := w.m.edges()
	first, _ := waits.Of(w.l, w.k)
	second, _ := waits.Of(w.l, w.k)
	spoil(first, inLine(1, 1))
	if !slices.Equal(second, want) {
		t.Error("two answers of Of share memory")
	}
	w.of(want...)
	spoil(second, inLine(1, 1))
	w.holds()

	list := edges(1, 5, 5, 2, 5, 9, 2, 5, 9, 1)
	a, b := waits.Ring(list), waits.Ring(list)
	spoil(a, 77)
	if !slices.Equal(b, []uint64{1, 5, 9}) {
		t.Error("two answers of Ring share memory")
	}
	rings(t, list, 1, 5, 9)

	list = edges(3, 2, 2, 1, 3, 1)
	x, _ := waits.Heights(list)
	y, _ := waits.Heights(list)
	x[1], x[99] = 50, 51
	delete(x, 2)
	if !maps.Equal(y, map[uint64]int{1: 0, 2: 1, 3: 2}) {
		t.Error("two answers of Heights share memory")
	}
	rises(t, list, y)
	none, _ := waits.Heights(nil)
	if none != nil {
		none[4] = 4
	}
	rises(t, nil, map[uint64]int{})
}

func TestR3_FreeIsAListOfItsOwn(t *testing.T) {
	for _, list := range [][]waits.Edge{nil, edges(3, 2)} {
		asked, whole := roomy([]uint64{2, 9, 4}, 8)
		was := slices.Clone(whole)
		free, again := waits.Free(list, asked), waits.Free(list, asked)
		spoil(free, 3)
		if !slices.Equal(whole, was) || !slices.Equal(again, []uint64{2, 9, 4}) {
			t.Errorf("Free of %v shares memory: %v, %v", list, whole, again)
		}
		spoil(whole, 3)
		if !slices.Equal(again, []uint64{2, 9, 4}) {
			t.Errorf("Free of %v hands out what it was given", list)
		}
	}
}

func TestR3_EdgesOfTheCaller(t *testing.T) {
	// The edges are written over behind each call, and what was told stays.
	list := edges(2, 4, 4, 2, 1, 2, 4, 3, 3, 2)
	ring := waits.Ring(list)
	spoil(list, inLine(7, 7))
	if !slices.Equal(ring, []uint64{2, 4}) {
		t.Errorf("Ring tells %v behind a change of its edges", ring)
	}
	rings(t, list, 7)
	list = edges(3, 2, 2, 1)
	heights, _ := waits.Heights(list)
	spoil(list, inLine(8, 7))
	if !maps.Equal(heights, map[uint64]int{1: 0, 2: 1, 3: 2}) {
		t.Errorf("Heights tells %v behind a change of its edges", heights)
	}
	rises(t, list, map[uint64]int{7: 0, 8: 1})
}

func TestR4_EmptyAndNil(t *testing.T) {
	for _, list := range [][]waits.Edge{nil, {}, make([]waits.Edge, 0, 4), edges(1, 1)[:0]} {
		if r := waits.Ring(list); len(r) != 0 {
			t.Errorf("Ring of no edges = %v", r)
		}
		if h, e := waits.Heights(list); len(h) != 0 || e != api.OK {
			t.Errorf("Heights of no edges = %v, %d", h, e)
		}
		if f := waits.Free(list, []uint64{3, 0}); !slices.Equal(f, []uint64{3, 0}) {
			t.Errorf("Free of no edges = %v", f)
		}
	}
}

func TestR5_TheSameRunTwice(t *testing.T) {
	tells := func() string {
		c := chance(55)
		w := newWorld(t, plain)
		text := ""
		for range 150 {
			w.step(&c, 12)
			got, e := waits.Of(w.l, w.k)
			heights, f := waits.Heights(got)
			text += fmt.Sprint(got, e, heights, f, waits.Free(got, w.m.there()))
			got = append(got, inLine(1, 2))
			text += fmt.Sprint(waits.Ring(append(got, reversed(got)...)), ";")
		}
		return text
	}
	if tells() != tells() {
		t.Error("two runs with the same calls tell different things")
	}
}

func TestExample1(t *testing.T) {
	rings(t, nil)
	rises(t, nil, map[uint64]int{})
	rings(t, edges(1, 1), 1)
	rings(t, edges(1, 2, 2, 3, 3, 1, 5, 1), 1, 2, 3)
	rises(t, edges(1, 2, 2, 3, 3, 1, 5, 1), nil)
	rings(t, edges(3, 2, 2, 1, 3, 1))
	rises(t, edges(3, 2, 2, 1, 3, 1), map[uint64]int{1: 0, 2: 1, 3: 2})
}

func TestExample2(t *testing.T) {
	rings(t, edges(2, 4, 4, 2, 1, 2, 4, 3, 3, 2), 2, 4)
	rings(t, edges(1, 5, 5, 2, 5, 9, 2, 5, 9, 1), 1, 5, 9)
}

func TestExample3(t *testing.T) {
	frees(t, edges(3, 2), []uint64{3, 2, 9}, 2, 9)
}
