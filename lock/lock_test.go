package lock_test

import (
	"fmt"
	"iter"
	"math"
	"slices"
	"testing"

	"wicket/api"
	"wicket/lock"
)

// most is the greatest ticket that may be.
const most uint64 = math.MaxUint64

// noBlocks are numbers that are no block of any store, the number of the blocks itself left out.
var noBlocks = []int{math.MinInt, math.MinInt + 1, -1 << 32, -64, -2, -1, api.MaxBlocks, api.MaxBlocks + 1, 1 << 32, math.MaxInt - 1, math.MaxInt}

// chance tells numbers that look like chance and are the same in each run.
type chance uint64

func (c *chance) next() uint64 {
	*c ^= *c << 13
	*c ^= *c >> 7
	*c ^= *c << 17
	return uint64(*c)
}

// below tells one of 0 to n - 1.
func (c *chance) below(n int) int {
	return int(c.next() % uint64(n))
}

// set tells a set of 1 to many of so many blocks, rising.
func (c *chance) set(blocks, many int) []int {
	has := make([]bool, blocks)
	for range 1 + c.below(many) {
		has[c.below(blocks)] = true
	}
	var set []int
	for b := range has {
		if has[b] {
			set = append(set, b)
		}
	}
	return set
}

// entry is a ticket that ever was laid.
type entry struct {
	ticket uint64
	set    []int
	locked int
	gone   bool
}

// model is locks by another hand: all that ever were laid, in their order. There are no queues: who stands where is found by going through all of them.
type model struct {
	blocks int
	all    []entry
}

// at tells the entry of a ticket that is there; nil: it is not.
func (m *model) at(ticket uint64) *entry {
	for i := range m.all {
		if m.all[i].ticket == ticket && !m.all[i].gone {
			return &m.all[i]
		}
	}
	return nil
}

// greatest tells the greatest that ever was laid.
func (m *model) greatest() uint64 {
	var g uint64
	for _, x := range m.all {
		g = max(g, x.ticket)
	}
	return g
}

func (m *model) queue(block int) []uint64 {
	var tickets []uint64
	for _, x := range m.all {
		if !x.gone && slices.Contains(x.set, block) {
			tickets = append(tickets, x.ticket)
		}
	}
	return tickets
}

// holders tells all that have locked a block.
func (m *model) holders(block int) []uint64 {
	var tickets []uint64
	for _, x := range m.all {
		if !x.gone && slices.Contains(x.set[:x.locked], block) {
			tickets = append(tickets, x.ticket)
		}
	}
	return tickets
}

func (m *model) next(ticket uint64) (int, bool) {
	x := m.at(ticket)
	if x == nil || x.locked == len(x.set) {
		return 0, false
	}
	return x.set[x.locked], true
}

func (m *model) ready(ticket uint64) bool {
	b, more := m.next(ticket)
	return more && m.queue(b)[0] == ticket
}

func (m *model) held(ticket uint64) []int {
	x := m.at(ticket)
	if x == nil {
		return nil
	}
	return x.set[:x.locked]
}

func (m *model) lay(ticket uint64, set []int) api.Errno {
	if len(set) == 0 {
		return api.ErrForm
	}
	for i := range set {
		for j := range i {
			if set[j] >= set[i] {
				return api.ErrForm
			}
		}
	}
	for _, b := range set {
		if b < 0 || b >= m.blocks {
			return api.ErrBlock
		}
	}
	if ticket <= m.greatest() {
		return api.ErrTicket
	}
	m.all = append(m.all, entry{ticket: ticket, set: slices.Clone(set)})
	return api.OK
}

func (m *model) take(ticket uint64) (int, api.Errno) {
	x := m.at(ticket)
	switch {
	case x == nil:
		return 0, api.ErrTicket
	case x.locked == len(x.set):
		return 0, api.ErrState
	case !m.ready(ticket):
		return 0, api.ErrFirst
	}
	x.locked++
	return x.set[x.locked-1], api.OK
}

func (m *model) drop(ticket uint64) (int, api.Errno) {
	x := m.at(ticket)
	if x == nil {
		return 0, api.ErrTicket
	}
	x.gone = true
	return x.locked, api.OK
}

func (m *model) copy() *model {
	return &model{m.blocks, slices.Clone(m.all)}
}

// tickets tells all tickets that ever were laid, those beside them, and some that never come.
func (m *model) tickets() []uint64 {
	list := []uint64{0, 1 << 32, 1 << 62, 1 << 63, most - 1, most}
	for _, x := range m.all {
		list = append(list, x.ticket-1, x.ticket, x.ticket+1)
	}
	return list
}

// of makes locks.
func of(t *testing.T, blocks int) *lock.Locks {
	t.Helper()
	l, e := lock.New(blocks)
	if l == nil || e != api.OK {
		t.Fatalf("New(%d) = %v, %d", blocks, l, e)
	}
	return l
}

// is holds an error against another one.
func is(t *testing.T, got, want api.Errno) {
	t.Helper()
	if got != want {
		t.Fatalf("it answers %d, want %d", got, want)
	}
}

// queues holds a block's queue against another one.
func queues(t *testing.T, l *lock.Locks, block int, want ...uint64) {
	t.Helper()
	if q := l.Queue(block); !slices.Equal(q, want) {
		t.Fatalf("Queue(%d) = %v, want %v", block, q, want)
	}
}

// holder holds who has locked a block against a ticket; 0: nobody.
func holder(t *testing.T, l *lock.Locks, block int, want uint64) {
	t.Helper()
	if n, ok := l.Holder(block); n != want || ok != (want != 0) {
		t.Fatalf("Holder(%d) = %d, %v, want %d", block, n, ok, want)
	}
}

// next holds a ticket's next block against a number; -1: there is none.
func next(t *testing.T, l *lock.Locks, ticket uint64, want int) {
	t.Helper()
	if b, ok := l.Next(ticket); b != max(want, 0) || ok != (want >= 0) {
		t.Fatalf("Next(%d) = %d, %v, want %d", ticket, b, ok, want)
	}
}

// ready holds whether a ticket is Ready against an answer.
func ready(t *testing.T, l *lock.Locks, ticket uint64, want bool) {
	t.Helper()
	if l.Ready(ticket) != want {
		t.Fatalf("Ready(%d) = %v", ticket, !want)
	}
}

// held holds the blocks that a ticket has locked against a list.
func held(t *testing.T, l *lock.Locks, ticket uint64, want ...int) {
	t.Helper()
	if h := l.Held(ticket); !slices.Equal(h, want) {
		t.Fatalf("Held(%d) = %v, want %v", ticket, h, want)
	}
}

// takes holds what Take answers against a block and an error.
func takes(t *testing.T, l *lock.Locks, ticket uint64, block int, want api.Errno) {
	t.Helper()
	if b, e := l.Take(ticket); b != block || e != want {
		t.Fatalf("Take(%d) = %d, %d, want %d, %d", ticket, b, e, block, want)
	}
}

// drops holds what Drop answers against a number and an error.
func drops(t *testing.T, l *lock.Locks, ticket uint64, n int, want api.Errno) {
	t.Helper()
	if got, e := l.Drop(ticket); got != n || e != want {
		t.Fatalf("Drop(%d) = %d, %d, want %d, %d", ticket, got, e, n, want)
	}
}

// told is a ticket with its set, as All tells them.
type told struct {
	ticket uint64
	set    []int
}

// through goes through a sequence, and fails where it does not end.
func through(t *testing.T, s iter.Seq2[uint64, []int]) []told {
	t.Helper()
	if s == nil {
		t.Fatal("All is nil")
	}
	var list []told
	for n, set := range s {
		if list = append(list, told{n, set}); len(list) > 1<<20 {
			t.Fatal("a sequence that does not end")
		}
	}
	return list
}

// alike tells whether two lists have the same tickets with the same sets.
func alike(a, b []told) bool {
	return slices.EqualFunc(a, b, func(x, y told) bool { return x.ticket == y.ticket && slices.Equal(x.set, y.set) })
}

// there tells what All is to tell of a model.
func (m *model) there() []told {
	var list []told
	for _, x := range m.all {
		if !x.gone {
			list = append(list, told{x.ticket, slices.Clone(x.set)})
		}
	}
	return list
}

// gives holds a sequence against a list, twice.
func gives(t *testing.T, s iter.Seq2[uint64, []int], want []told) {
	t.Helper()
	for range 2 {
		if list := through(t, s); !alike(list, want) {
			t.Fatalf("All gives %v, want %v", list, want)
		}
	}
}

// pair is locks beside their model: each call is done with both.
type pair struct {
	t *testing.T
	l *lock.Locks
	m *model
}

func paired(t *testing.T, blocks int) *pair {
	t.Helper()
	return &pair{t, of(t, blocks), &model{blocks: blocks}}
}

func (p *pair) copy() *pair {
	return &pair{p.t, p.l.Copy(), p.m.copy()}
}

// tells holds all that the locks tell against the model: of each block, of some that are none, of each ticket that ever was laid, and of some that were not.
func (p *pair) tells() {
	p.t.Helper()
	for b := range p.m.blocks {
		queues(p.t, p.l, b, p.m.queue(b)...)
		var want uint64
		if h := p.m.holders(b); len(h) > 0 {
			want = h[0]
		}
		holder(p.t, p.l, b, want)
	}
	for _, b := range append([]int{p.m.blocks, p.m.blocks + 1}, noBlocks...) {
		queues(p.t, p.l, b)
		holder(p.t, p.l, b, 0)
	}
	for _, n := range p.m.tickets() {
		want := -1
		if b, more := p.m.next(n); more {
			want = b
		}
		next(p.t, p.l, n, want)
		ready(p.t, p.l, n, p.m.ready(n))
		held(p.t, p.l, n, p.m.held(n)...)
	}
	gives(p.t, p.l.All(), p.m.there())
	holds(p.t, p.l, p.m.blocks)
}

// wouldAnswer holds what every call that changes something would answer now against the model, each with a copy: what has ever been laid is told by them alone.
func (p *pair) wouldAnswer() {
	p.t.Helper()
	g := p.m.greatest()
	for _, n := range []uint64{0, g / 2, g, g - 1, g + 1, most} {
		if got, want := p.l.Copy().Lay(n, []int{0}), p.m.copy().lay(n, []int{0}); got != want {
			p.t.Fatalf("Lay(%d) = %d where %d is the greatest", n, got, g)
		}
	}
	for _, n := range p.m.tickets() {
		b, e := p.m.copy().take(n)
		takes(p.t, p.l.Copy(), n, b, e)
		k, e := p.m.copy().drop(n)
		drops(p.t, p.l.Copy(), n, k, e)
	}
}

// holds asks for what P14.8 and P14.9 say, from what the locks tell alone.
func holds(t *testing.T, l *lock.Locks, blocks int) {
	t.Helper()
	sets := through(t, l.All())
	locked := map[int]uint64{}
	for i, x := range sets {
		if i > 0 && x.ticket <= sets[i-1].ticket {
			t.Fatalf("All does not rise: %v", sets)
		}
		for _, b := range l.Held(x.ticket) {
			if other := locked[b]; other != 0 {
				t.Fatalf("block %d is locked by %d and by %d", b, other, x.ticket)
			}
			locked[b] = x.ticket
		}
	}
	for b := range blocks {
		q := l.Queue(b)
		if !rising(q) {
			t.Fatalf("Queue(%d) = %v", b, q)
		}
		holder(t, l, b, locked[b])
		if n := locked[b]; n != 0 && (len(q) == 0 || q[0] != n) {
			t.Fatalf("block %d is locked by %d, and its queue is %v", b, n, q)
		}
	}
	if len(sets) == 0 {
		return
	}
	if _, more := l.Next(sets[0].ticket); more != l.Ready(sets[0].ticket) {
		t.Fatalf("the least ticket %d has a next block: %v; it is Ready: %v", sets[0].ticket, more, !more)
	}
}

// rising tells whether each ticket of a list is above the one ahead of it, and the first one above 0.
func rising(tickets []uint64) bool {
	last := uint64(0)
	for _, n := range tickets {
		if n <= last {
			return false
		}
		last = n
	}
	return true
}

// answers holds two answers of one call against each other, and the locks against their model behind it. It tells whether the call was taken.
func (p *pair) answers(call string, got, want api.Errno) bool {
	p.t.Helper()
	if got != want {
		p.t.Fatalf("%s = %d, want %d: %+v", call, got, want, *p.m)
	}
	p.tells()
	if got != api.OK {
		p.wouldAnswer()
	}
	return got == api.OK
}

func (p *pair) lay(ticket uint64, set ...int) bool {
	p.t.Helper()
	return p.answers(fmt.Sprintf("Lay(%d, %v)", ticket, set), p.l.Lay(ticket, set), p.m.lay(ticket, set))
}

func (p *pair) take(ticket uint64) bool {
	p.t.Helper()
	b, e := p.l.Take(ticket)
	want, f := p.m.take(ticket)
	if b != want {
		p.t.Fatalf("Take(%d) = %d, want %d", ticket, b, want)
	}
	return p.answers(fmt.Sprintf("Take(%d)", ticket), e, f)
}

func (p *pair) drop(ticket uint64) bool {
	p.t.Helper()
	n, e := p.l.Drop(ticket)
	want, f := p.m.drop(ticket)
	if n != want {
		p.t.Fatalf("Drop(%d) = %d, want %d", ticket, n, want)
	}
	return p.answers(fmt.Sprintf("Drop(%d)", ticket), e, f)
}

// goes asks that all calls of a list are taken.
func (p *pair) goes(taken ...bool) {
	p.t.Helper()
	if slices.Contains(taken, false) {
		p.t.Fatalf("call %d was refused: %+v", slices.Index(taken, false), *p.m)
	}
}

// upTo tells the numbers from one on up to, without it, another one.
func upTo(from, to int) []int {
	var list []int
	for b := from; b < to; b++ {
		list = append(list, b)
	}
	return list
}

func TestP14_1_New(t *testing.T) {
	for _, n := range []int{math.MinInt, math.MinInt + 1, -1 << 32, -65, -64, -2, -1, 0, 65, 66, 128, 256, 1 << 32, 1<<32 + 1, math.MaxInt - 1, math.MaxInt} {
		if l, e := lock.New(n); l != nil || e != api.ErrInput {
			t.Errorf("New(%d) = %v, %d, want ErrInput", n, l, e)
		}
	}
	for n := 1; n <= api.MaxBlocks; n++ {
		p := paired(t, n)
		p.tells()
		p.wouldAnswer()
		// Just so many blocks there are.
		p.goes(!p.lay(1, n), !p.lay(1, n-1, n), p.lay(1, n-1), p.lay(2, upTo(0, n)...))
	}
}

func TestP14_1_NewAreOfTheirOwn(t *testing.T) {
	a, b := paired(t, 3), paired(t, 3)
	a.goes(a.lay(5, 0, 1), a.take(5))
	b.tells()
	b.wouldAnswer()
	b.goes(b.lay(2, 1), b.take(2))
	a.tells()
	a.wouldAnswer()
}

func TestP14_2_LaySets(t *testing.T) {
	long := upTo(0, 100000)
	broken := append(slices.Clone(long), 7)
	for _, c := range []struct {
		name   string
		blocks int
		set    []int
		want   api.Errno
	}{
		{"nil", 64, nil, api.ErrForm},
		{"an empty one", 64, []int{}, api.ErrForm},
		{"an empty one with spare room", 64, make([]int, 0, 4), api.ErrForm},
		{"one block", 64, []int{7}, api.OK},
		{"block 0", 64, []int{0}, api.OK},
		{"the last block", 64, []int{63}, api.OK},
		{"block 0 and the last one", 64, []int{0, 63}, api.OK},
		{"the only block", 1, []int{0}, api.OK},
		{"behind the only block", 1, []int{1}, api.ErrBlock},
		{"as many as a form has", 64, upTo(20, 36), api.OK},
		{"one more than a form has", 64, upTo(20, 37), api.OK},
		{"all blocks", 64, upTo(0, 64), api.OK},
		{"all blocks of a few", 5, upTo(0, 5), api.OK},
		{"all blocks and one more", 64, upTo(0, 65), api.ErrBlock},
		{"all blocks and one below 0", 64, upTo(-1, 64), api.ErrBlock},
		{"a block twice", 64, []int{7, 7}, api.ErrForm},
		{"block 0 twice", 64, []int{0, 0}, api.ErrForm},
		{"a block twice behind others", 64, []int{1, 2, 7, 7}, api.ErrForm},
		{"a block twice ahead of others", 64, []int{1, 1, 2, 7}, api.ErrForm},
		{"a block twice, apart", 64, []int{1, 2, 1}, api.ErrForm},
		{"falling", 64, []int{9, 5, 3, 1}, api.ErrForm},
		{"falling once", 64, []int{1, 5, 3, 9}, api.ErrForm},
		{"falling at the end", 64, []int{1, 5, 9, 8}, api.ErrForm},
		{"falling at the beginning", 64, []int{1, 0, 5, 9}, api.ErrForm},
		{"one below 0", 64, []int{-1}, api.ErrBlock},
		{"one below 0 ahead of others", 64, []int{-1, 0, 1}, api.ErrBlock},
		{"one below 0 behind others", 64, []int{0, 1, -1}, api.ErrForm},
		{"one below 0 twice", 64, []int{-1, -1}, api.ErrForm},
		{"the number of blocks", 64, []int{64}, api.ErrBlock},
		{"the number of blocks, of a few", 4, []int{4}, api.ErrBlock},
		{"a block of others", 4, []int{1, 63}, api.ErrBlock},
		{"the number of blocks behind others", 64, []int{1, 2, 64}, api.ErrBlock},
		{"the number of blocks ahead of others", 64, []int{64, 1, 2}, api.ErrForm},
		{"the number of blocks twice", 64, []int{64, 64}, api.ErrForm},
		{"the least int", 64, []int{math.MinInt}, api.ErrBlock},
		{"the least int ahead of others", 64, []int{math.MinInt, 3}, api.ErrBlock},
		{"the least int behind others", 64, []int{3, math.MinInt}, api.ErrForm},
		{"the greatest int", 64, []int{math.MaxInt}, api.ErrBlock},
		{"the greatest int behind others", 64, []int{3, math.MaxInt}, api.ErrBlock},
		{"the greatest int ahead of others", 64, []int{math.MaxInt, 3}, api.ErrForm},
		{"the least and the greatest int", 64, []int{math.MinInt, math.MaxInt}, api.ErrBlock},
		{"the greatest and the least int", 64, []int{math.MaxInt, math.MinInt}, api.ErrForm},
		{"the least int twice", 64, []int{math.MinInt, math.MinInt}, api.ErrForm},
		{"numbers with lower halves that are blocks", 64, []int{1 << 32, 1<<32 + 1}, api.ErrBlock},
	} {
		t.Run(c.name, func(t *testing.T) {
			p := paired(t, c.blocks)
			is(t, p.l.Copy().Lay(5, c.set), c.want)
			p.lay(5, c.set...)
			p.wouldAnswer()
		})
	}
	for _, set := range [][]int{long, broken} {
		want := []api.Errno{api.ErrBlock, api.ErrForm}[len(set)-len(long)]
		l := of(t, 64)
		is(t, l.Lay(1, set), want)
		is(t, l.Lay(1, []int{0}), api.OK)
	}
}

func TestP14_2_LayStandsAtTheEndOfEachQueue(t *testing.T) {
	p := paired(t, 64)
	sets := [][]int{upTo(0, 64), {0, 63}, {1, 2, 3}, upTo(10, 27), {0}, {63}, upTo(0, 64), {31, 32, 40}}
	for i, set := range sets {
		n := uint64(3 * (i + 1))
		p.goes(p.lay(n, set...))
		next(t, p.l, n, set[0])
		held(t, p.l, n)
		for b := range 64 {
			q := p.l.Queue(b)
			if slices.Contains(set, b) != (len(q) > 0 && q[len(q)-1] == n) {
				t.Fatalf("Queue(%d) = %v behind Lay(%d, %v)", b, q, n, set)
			}
		}
	}
	queues(t, p.l, 0, 3, 6, 15, 21)
	queues(t, p.l, 63, 3, 6, 18, 21)
	queues(t, p.l, 31, 3, 21, 24)
	queues(t, p.l, 9, 3, 21)
}

func TestP14_2_LayTickets(t *testing.T) {
	p := paired(t, 4)
	p.goes(!p.lay(0, 1), p.lay(5, 1), !p.lay(0, 2), !p.lay(5, 1), !p.lay(5, 2), !p.lay(4, 2), !p.lay(1, 3), p.lay(6, 2))
	// 9 is laid, 7 and 8 never were: they may not come any more, there or elsewhere.
	p.goes(p.lay(9, 3), !p.lay(7, 0), !p.lay(8, 0), !p.lay(7, 3), !p.lay(9, 0), p.lay(10, 0))
	// What was dropped was laid all the same.
	p.goes(p.drop(10), !p.lay(10, 0), !p.lay(9, 0), p.drop(9), !p.lay(9, 3), !p.lay(10, 3), p.lay(11, 0))
	p.goes(p.drop(5), p.drop(6), p.drop(11), !p.lay(11, 1), !p.lay(1, 1), !p.lay(0, 1), p.lay(12, 1))
}

func TestP14_2_LayTicketsAreHeldAgainstEachOtherWhole(t *testing.T) {
	p := paired(t, 2)
	for _, n := range []uint64{1, 1 << 31, 1 << 32, 1<<32 + 1, 1 << 62, 1<<62 + 1, 1 << 63, 1<<63 + 1, most - 1} {
		p.goes(p.lay(n, 0, 1), !p.lay(n, 0), !p.lay(n-1, 1))
	}
	p.goes(!p.lay(2, 0), !p.lay(1<<33, 0), !p.lay(1<<63-1, 0), p.lay(most, 1))
}

func TestP14_2_LayTheGreatestAndThenAnyOther(t *testing.T) {
	others := []uint64{0, 1, 2, 6, 7, 8, 1 << 31, 1 << 32, 1 << 62, 1 << 63, most - 1, most}
	p := paired(t, 4)
	p.goes(p.lay(7, 0, 1), p.lay(most, 1, 3))
	refused := func() {
		t.Helper()
		for _, n := range others {
			p.goes(!p.lay(n, 2), !p.lay(n, 0), !p.lay(n, 3))
			is(t, p.l.Lay(n, []int{2}), api.ErrTicket)
		}
	}
	refused()
	p.goes(!p.take(most), p.drop(7), p.take(most), p.take(most), !p.take(most))
	refused()
	p.goes(p.drop(most))
	refused()
	q := paired(t, 1)
	q.goes(q.lay(most, 0), !q.lay(1, 0), q.drop(most), !q.lay(most, 0), !q.lay(1, 0))
}

func TestP14_2_ARefusedLayWasNoLay(t *testing.T) {
	p := paired(t, 4)
	p.goes(p.lay(3, 0), !p.lay(9), !p.lay(9, 2, 2), !p.lay(9, 4), !p.lay(most, 3, 1), !p.lay(most, -1))
	p.goes(p.lay(4, 0), !p.lay(2, 1), p.lay(9, 1), p.drop(9), p.lay(most, 2))
}

func TestP14_2_OrderOfErrors(t *testing.T) {
	for _, c := range []struct {
		name   string
		ticket uint64
		set    []int
		want   api.Errno
	}{
		{"nothing declared, and ticket 0", 0, nil, api.ErrForm},
		{"nothing declared, and a ticket that is there", 5, []int{}, api.ErrForm},
		{"a double that is no block, and ticket 0", 0, []int{4, 4}, api.ErrForm},
		{"a double below 0, and a ticket that is there", 5, []int{-1, -1}, api.ErrForm},
		{"a double, and one that is no block behind it", 6, []int{2, 2, 4}, api.ErrForm},
		{"one below 0, and a double behind it", 6, []int{-1, 2, 2}, api.ErrForm},
		{"falling to one that is no block", 6, []int{3, 1, -1}, api.ErrForm},
		{"a double, and a ticket that was dropped", 2, []int{1, 1}, api.ErrForm},
		{"no block, and ticket 0", 0, []int{4}, api.ErrBlock},
		{"no block, and a ticket that is there", 5, []int{0, 4}, api.ErrBlock},
		{"no block, and a ticket that was dropped", 2, []int{-1}, api.ErrBlock},
		{"no block, and a ticket that never came", 3, []int{-1, 4}, api.ErrBlock},
		{"no block, and the next ticket", 6, []int{-1, 0}, api.ErrBlock},
		{"ticket 0", 0, []int{0}, api.ErrTicket},
		{"a ticket that is there", 5, []int{3}, api.ErrTicket},
	} {
		t.Run(c.name, func(t *testing.T) {
			p := paired(t, 4)
			p.goes(p.lay(2, 0, 1), p.lay(5, 1, 2), p.drop(2))
			is(t, p.l.Copy().Lay(c.ticket, c.set), c.want)
			p.goes(!p.lay(c.ticket, c.set...))
			var none *lock.Locks
			is(t, none.Lay(c.ticket, c.set), api.ErrHandle)
		})
	}
}

// every is locks with tickets of each kind: 2 has locked all of its blocks, 4 some and stands first at its next one, 6 some and stands behind 2 there, 8 nothing and stands first, 10 nothing and stands behind 4 (which has locked the block) and 12 behind 8 (which has not); 1 and 3 were dropped, 5 never came.
func every(t *testing.T) *pair {
	t.Helper()
	p := paired(t, 10)
	p.goes(p.lay(1, 0, 9), p.take(1), p.lay(2, 4, 5, 6), p.lay(3, 7), p.drop(1), p.drop(3))
	p.goes(p.lay(4, 0, 1, 2), p.lay(6, 3, 5, 9), p.lay(8, 7, 8), p.lay(10, 1, 7), p.lay(12, 7, 9))
	p.goes(p.take(2), p.take(2), p.take(2), p.take(4), p.take(4), p.take(6))
	return p
}

// kind is one of the tickets of every, and what is told of it.
type kind struct {
	name   string
	ticket uint64
	next   int // -1: none
	ready  bool
	held   []int
	take   api.Errno
	drop   api.Errno
}

var kinds = []kind{
	{"0", 0, -1, false, nil, api.ErrTicket, api.ErrTicket},
	{"dropped, had locked some", 1, -1, false, nil, api.ErrTicket, api.ErrTicket},
	{"all locked", 2, -1, false, []int{4, 5, 6}, api.ErrState, api.OK},
	{"dropped, had locked nothing", 3, -1, false, nil, api.ErrTicket, api.ErrTicket},
	{"some locked, first at the next", 4, 2, true, []int{0, 1}, api.OK, api.OK},
	{"never came", 5, -1, false, nil, api.ErrTicket, api.ErrTicket},
	{"some locked, behind one that has locked the next", 6, 5, false, []int{3}, api.ErrFirst, api.OK},
	{"nothing locked, first at the next", 8, 7, true, nil, api.OK, api.OK},
	{"nothing locked, behind one that has locked the next", 10, 1, false, nil, api.ErrFirst, api.OK},
	{"nothing locked, behind one that stands there", 12, 7, false, nil, api.ErrFirst, api.OK},
	{"never came, the next one", 13, -1, false, nil, api.ErrTicket, api.ErrTicket},
	{"the greatest", most, -1, false, nil, api.ErrTicket, api.ErrTicket},
}

func TestP14_3_NextAndReadyOfEachTicket(t *testing.T) {
	p := every(t)
	for _, k := range kinds {
		t.Run(k.name, func(t *testing.T) {
			for range 2 {
				next(t, p.l, k.ticket, k.next)
				ready(t, p.l, k.ticket, k.ready)
			}
		})
	}
}

func TestP14_3_NextIsBlock0(t *testing.T) {
	// 0 and true is not 0 and false.
	l := of(t, 2)
	is(t, l.Lay(1, []int{0, 1}), api.OK)
	next(t, l, 1, 0)
	takes(t, l, 1, 0, api.OK)
	next(t, l, 1, 1)
	takes(t, l, 1, 1, api.OK)
	next(t, l, 1, -1)
	drops(t, l, 1, 2, api.OK)
	next(t, l, 1, -1)
}

func TestP14_3_ReadyIsOfTheNextBlockAlone(t *testing.T) {
	// 2 stands first at blocks 1 and 3, but its next block is 0, where 1 stands.
	p := paired(t, 4)
	p.goes(p.lay(1, 0, 2), p.lay(2, 0, 1, 3))
	ready(t, p.l, 2, false)
	takes(t, p.l.Copy(), 2, 0, api.ErrFirst)
	p.goes(p.take(1), p.take(1), p.drop(1))
	ready(t, p.l, 2, true)
	// And one that stands first at its next block is Ready, wherever it stands elsewhere.
	p.goes(p.lay(3, 2, 3))
	ready(t, p.l, 3, true)
	p.goes(p.take(3))
	ready(t, p.l, 3, false)
	next(t, p.l, 3, 3)
}

func TestP14_4_TakeOfEachTicket(t *testing.T) {
	for _, k := range kinds {
		t.Run(k.name, func(t *testing.T) {
			p := every(t)
			want := 0
			if k.take == api.OK {
				want = k.next
			}
			takes(t, p.l.Copy(), k.ticket, want, k.take)
			p.take(k.ticket)
			if k.take == api.OK {
				holder(t, p.l, k.next, k.ticket)
				held(t, p.l, k.ticket, append(slices.Clone(k.held), k.next)...)
			} else {
				held(t, p.l, k.ticket, k.held...)
				next(t, p.l, k.ticket, k.next)
			}
		})
	}
}

func TestP14_4_TakeGoesByRisingBlocks(t *testing.T) {
	for _, set := range [][]int{{0}, {63}, {0, 63}, {3, 4, 9, 40, 62}, upTo(0, 64), upTo(17, 50)} {
		p := paired(t, 64)
		p.goes(p.lay(7, set...), p.lay(8, set...))
		for i, b := range set {
			next(t, p.l, 7, b)
			ready(t, p.l, 7, true)
			ready(t, p.l, 8, false)
			holder(t, p.l, b, 0)
			takes(t, p.l.Copy(), 7, b, api.OK)
			p.goes(p.take(7), !p.take(8))
			holder(t, p.l, b, 7)
			held(t, p.l, 7, set[:i+1]...)
		}
		next(t, p.l, 7, -1)
		for range 2 {
			takes(t, p.l, 7, 0, api.ErrState)
			takes(t, p.l, 8, 0, api.ErrFirst)
		}
		p.tells()
		drops(t, p.l, 7, len(set), api.OK)
		for _, b := range set {
			holder(t, p.l, b, 0)
			takes(t, p.l, 8, b, api.OK)
		}
	}
}

func TestP14_4_AllLockedComesAheadOfNotFirst(t *testing.T) {
	// A ticket whose blocks are all locked is not Ready either: ErrState is told, whoever stands behind it.
	p := paired(t, 2)
	p.goes(p.lay(1, 0), p.lay(2, 0), p.take(1))
	ready(t, p.l, 1, false)
	takes(t, p.l, 1, 0, api.ErrState)
	p.goes(p.drop(2))
	takes(t, p.l, 1, 0, api.ErrState)
	p.tells()
}

func TestP14_4_BehindADropOfTheOneAhead(t *testing.T) {
	for _, c := range []struct {
		name  string
		takes int // of 1, ahead of its Drop
	}{{"it only stood there", 0}, {"it had locked the one ahead of it", 1}, {"it had locked it", 2}, {"it had locked all", 3}} {
		t.Run(c.name, func(t *testing.T) {
			p := paired(t, 6)
			p.goes(p.lay(1, 0, 2, 4), p.lay(2, 2, 3), p.lay(3, 2), p.lay(4, 0))
			for range c.takes {
				p.goes(p.take(1))
			}
			p.goes(!p.take(2), !p.take(3), !p.take(4))
			drops(t, p.l.Copy(), 1, c.takes, api.OK)
			p.goes(p.drop(1))
			ready(t, p.l, 2, true)
			ready(t, p.l, 3, false)
			ready(t, p.l, 4, true)
			holder(t, p.l, 2, 0)
			takes(t, p.l.Copy(), 2, 2, api.OK)
			p.goes(p.take(2), !p.take(3), p.take(4), p.take(2), !p.take(2), p.drop(2), p.take(3))
		})
	}
}

func TestP14_4_BehindADropOfOneInTheMidst(t *testing.T) {
	p := paired(t, 2)
	for n := range uint64(6) {
		p.goes(p.lay(n+1, 0))
	}
	p.goes(p.drop(3), p.drop(5), !p.take(2), p.take(1), !p.take(2), p.drop(1), !p.take(4), p.take(2))
	queues(t, p.l, 0, 2, 4, 6)
	p.goes(p.drop(6), p.drop(2), p.take(4), p.drop(4))
	queues(t, p.l, 0)
}

func TestP14_5_DropOfEachTicket(t *testing.T) {
	for _, k := range kinds {
		t.Run(k.name, func(t *testing.T) {
			p := every(t)
			drops(t, p.l.Copy(), k.ticket, len(k.held), k.drop)
			p.drop(k.ticket)
			for b := range 10 {
				if slices.Contains(p.l.Queue(b), k.ticket) {
					t.Fatalf("Queue(%d) = %v behind Drop(%d)", b, p.l.Queue(b), k.ticket)
				}
			}
			for _, b := range k.held {
				holder(t, p.l, b, 0)
			}
			for range 2 {
				drops(t, p.l, k.ticket, 0, api.ErrTicket)
				takes(t, p.l, k.ticket, 0, api.ErrTicket)
				next(t, p.l, k.ticket, -1)
				ready(t, p.l, k.ticket, false)
				held(t, p.l, k.ticket)
				p.tells()
			}
		})
	}
}

func TestP14_5_DropAllInEachOrder(t *testing.T) {
	var try func(p *pair, left []uint64)
	try = func(p *pair, left []uint64) {
		for i, n := range left {
			twin := p.copy()
			twin.goes(twin.drop(n), !twin.drop(n))
			try(twin, slices.Delete(slices.Clone(left), i, i+1))
		}
		if len(left) > 0 {
			return
		}
		for b := range 10 {
			queues(t, p.l, b)
			holder(t, p.l, b, 0)
		}
		p.goes(!p.lay(12, 0), p.lay(13, upTo(0, 10)...), p.take(13))
	}
	try(every(t), []uint64{2, 4, 6, 8, 10, 12})
}

func TestP14_6_QueueAndHolder(t *testing.T) {
	p := every(t)
	for b, c := range []struct {
		queue  []uint64
		holder uint64
	}{
		{[]uint64{4}, 4},         // locked, behind a Drop of the one that had locked it
		{[]uint64{4, 10}, 4},     // locked, and one stands behind
		{[]uint64{4}, 0},         // one stands there, and has not locked it
		{[]uint64{6}, 6},         // locked
		{[]uint64{2}, 2},         // locked
		{[]uint64{2, 6}, 2},      // locked by one that has locked all
		{[]uint64{2}, 2},         // locked
		{[]uint64{8, 10, 12}, 0}, // three stand there, and none has locked it
		{[]uint64{8}, 0},         // one stands there whose next block is another one
		{[]uint64{6, 12}, 0},     // two stand there, whose next blocks are others
	} {
		queues(t, p.l, b, c.queue...)
		holder(t, p.l, b, c.holder)
	}
	p.goes(p.drop(8), p.drop(10), p.drop(12))
	for _, b := range []int{7, 8} {
		queues(t, p.l, b) // nobody stands there
		holder(t, p.l, b, 0)
	}
	for _, b := range append([]int{10, 11}, noBlocks...) {
		queues(t, p.l, b)
		holder(t, p.l, b, 0)
	}
	// What is no block of these is one of greater ones.
	q := paired(t, api.MaxBlocks)
	q.goes(q.lay(1, 10, 63), q.take(1), q.take(1))
	for _, b := range []int{10, 63} {
		queues(t, q.l, b, 1)
		holder(t, q.l, b, 1)
	}
	queues(t, p.l, 10)
}

func TestP14_6_HeldOfEachTicket(t *testing.T) {
	p := every(t)
	for _, k := range kinds {
		held(t, p.l, k.ticket, k.held...)
	}
}

func TestP14_6_AskingChangesNothing(t *testing.T) {
	p := every(t)
	for range 3 {
		for _, n := range p.m.tickets() {
			p.l.Next(n)
			p.l.Ready(n)
			p.l.Held(n)
		}
		for b := -2; b < 12; b++ {
			p.l.Queue(b)
			p.l.Holder(b)
		}
		through(t, p.l.All())
		p.l.Copy()
		p.tells()
		p.wouldAnswer()
	}
}

func TestP14_6_AllWhereThereIsNobody(t *testing.T) {
	l := of(t, 3)
	fresh := l.All()
	gives(t, fresh, nil)
	is(t, l.Lay(1, []int{1}), api.OK)
	gives(t, fresh, nil)
	drops(t, l, 1, 0, api.OK)
	gives(t, l.All(), nil)
}

func TestP14_6_AllTellsWhatThereWas(t *testing.T) {
	p := every(t)
	was := p.m.there()
	s := p.l.All()
	changes := []struct {
		name string
		do   func() bool
	}{
		{"Lay", func() bool { return p.lay(20, 0, 5) }},
		{"Take", func() bool { return p.take(4) }},
		{"Take of the last", func() bool { return p.take(8) && p.take(8) }},
		{"Drop of the least", func() bool { return p.drop(2) }},
		{"Drop of one in the midst", func() bool { return p.drop(8) }},
		{"Drop of the greatest", func() bool { return p.drop(20) }},
		{"Lay with a gap", func() bool { return p.lay(30, 1) }},
		{"Drop of all", func() bool { return p.drop(4) && p.drop(6) && p.drop(10) && p.drop(12) && p.drop(30) }},
		{"Lay again", func() bool { return p.lay(31, 9) && p.take(31) }},
	}
	for _, c := range changes {
		// Each sequence stays as it was made, however many are made beside it.
		now, between := p.m.there(), p.l.All()
		p.goes(c.do())
		gives(t, s, was)
		gives(t, between, now)
		gives(t, p.l.All(), p.m.there())
	}
}

func TestP14_6_AllEndsEarly(t *testing.T) {
	p := every(t)
	s, all := p.l.All(), p.m.there()
	for enough := 1; enough <= len(all); enough++ {
		var list []told
		s(func(n uint64, set []int) bool {
			list = append(list, told{n, set})
			return len(list) != enough
		})
		if !alike(list, all[:enough]) {
			t.Errorf("All gives %v to one who has enough behind %d", list, enough)
		}
		for range s {
			break
		}
		gives(t, s, all)
	}
	p.tells()
}

func TestP14_6_AllOneLoopWithinTheOther(t *testing.T) {
	p := paired(t, 4)
	p.goes(p.lay(1, 0, 3), p.lay(2, 1), p.lay(3, 2, 3))
	s := p.l.All()
	var list []uint64
	for a, outer := range s {
		for b, inner := range s {
			list = append(list, 10*a+b)
			if a == b && &outer[0] == &inner[0] {
				t.Errorf("both loops are told one set of %d", a)
			}
			if a == 2 && b == 2 {
				break
			}
		}
	}
	if want := []uint64{11, 12, 13, 21, 22, 31, 32, 33}; !slices.Equal(list, want) {
		t.Errorf("loops give %v, want %v", list, want)
	}
	x, endX := iter.Pull2(s)
	defer endX()
	y, endY := iter.Pull2(s)
	defer endY()
	for _, want := range []uint64{1, 2, 3, 0} {
		a, _, okA := x()
		b, _, okB := y()
		if a != want || b != want || okA != (want != 0) || okB != okA {
			t.Errorf("pulled %d, %v and %d, %v, want %d", a, okA, b, okB, want)
		}
	}
}

func TestP14_6_AllInLoopsThatChangeTheLocks(t *testing.T) {
	p := every(t)
	was := p.m.there()
	var list []told
	for n, set := range p.l.All() {
		list = append(list, told{n, slices.Clone(set)})
		p.goes(p.drop(n), p.lay(100+n, set...))
	}
	if !alike(list, was) {
		t.Errorf("All gives %v, want %v", list, was)
	}
	for n := range p.l.All() {
		p.drop(n)
	}
	gives(t, p.l.All(), nil)
}

func TestP14_6_CopiesAndTheFirstLocksDoNotMeet(t *testing.T) {
	changes := []struct {
		name string
		do   func(p *pair)
	}{
		{"nothing", func(*pair) {}},
		{"laid", func(p *pair) { p.goes(p.lay(13, 0, 2, 7)) }},
		{"laid others", func(p *pair) { p.goes(p.lay(14, 9), p.lay(15, upTo(0, 10)...)) }},
		{"laid the greatest", func(p *pair) { p.goes(p.lay(most, 3)) }},
		{"refused", func(p *pair) { p.goes(!p.lay(12, 0), !p.lay(20), !p.lay(20, 10), !p.take(2), !p.take(6), !p.drop(5)) }},
		{"taken", func(p *pair) { p.goes(p.take(4)) }},
		{"taken by another one", func(p *pair) { p.goes(p.take(8), p.take(8)) }},
		{"dropped the one that has all", func(p *pair) { p.goes(p.drop(2), p.take(6)) }},
		{"dropped one in the midst", func(p *pair) { p.goes(p.drop(8), !p.take(12)) }},
		{"dropped the last", func(p *pair) { p.goes(p.drop(12), p.lay(13, 9)) }},
		{"dropped all", func(p *pair) { p.goes(p.drop(2), p.drop(4), p.drop(6), p.drop(8), p.drop(10), p.drop(12)) }},
	}
	for _, a := range changes {
		for _, b := range changes {
			t.Run(a.name+", and the copy "+b.name, func(t *testing.T) {
				first := every(t)
				twin := first.copy()
				third := twin.copy()
				a.do(first)
				twin.tells()
				twin.wouldAnswer()
				b.do(twin)
				first.tells()
				first.wouldAnswer()
				third.tells()
				third.wouldAnswer()
				a.do(third)
				twin.tells()
				twin.wouldAnswer()
				first.tells()
			})
		}
	}
}

func TestP14_6_CopiesOfNew(t *testing.T) {
	p := paired(t, 3)
	twin := p.copy()
	p.goes(p.lay(4, 0, 1), p.take(4))
	twin.tells()
	twin.wouldAnswer()
	twin.goes(twin.lay(1, 0, 2), twin.take(1), twin.take(1))
	p.tells()
	p.wouldAnswer()
}

func TestP14_6_ASequenceOutlivesChangesOfACopy(t *testing.T) {
	p := every(t)
	was, s := p.m.there(), p.l.All()
	twin := p.copy()
	twin.goes(twin.drop(2), twin.lay(20, 1), twin.take(4), twin.drop(4))
	gives(t, s, was)
	gives(t, p.l.All(), was)
	p.goes(p.drop(6))
	gives(t, twin.l.All(), twin.m.there())
}

func TestP14_7_NilInEveryCall(t *testing.T) {
	var l *lock.Locks
	for _, n := range []uint64{0, 1, 2, most} {
		for _, set := range [][]int{nil, {}, {0}, {0, 1}, {1, 0}, {-1}, {64}} {
			is(t, l.Lay(n, set), api.ErrHandle)
		}
		next(t, l, n, -1)
		ready(t, l, n, false)
		takes(t, l, n, 0, api.ErrHandle)
		drops(t, l, n, 0, api.ErrHandle)
		held(t, l, n)
	}
	for _, b := range append([]int{0, 1, 63}, noBlocks...) {
		queues(t, l, b)
		holder(t, l, b, 0)
	}
	gives(t, l.All(), nil)
	if l.Copy() != nil {
		t.Error("Copy is not nil")
	}
}

// runs does every run of so many calls that are taken, and behind each of them all calls that are refused.
func runs(p *pair, sets [][]int, calls int) {
	p.t.Helper()
	last := p.m.greatest()
	refused := func(taken bool) {
		p.t.Helper()
		p.goes(!taken)
	}
	refused(p.lay(last, sets[0]...))
	refused(p.lay(last+1, p.m.blocks))
	refused(p.lay(last+1, 0, 0))
	type call func(q *pair) bool
	var all []call
	for _, set := range sets {
		all = append(all, func(q *pair) bool { return q.lay(last+1, set...) })
	}
	for n := range last + 2 {
		all = append(all, func(q *pair) bool { return q.take(n) }, func(q *pair) bool { return q.drop(n) })
	}
	for _, do := range all {
		q := p.copy()
		if do(q) && calls > 1 {
			runs(q, sets, calls-1)
		}
	}
	p.tells()
}

func TestP14_10_EveryShortRun(t *testing.T) {
	runs(paired(t, 1), [][]int{{0}}, 7)
	runs(paired(t, 2), [][]int{{0}, {1}, {0, 1}}, 5)
	runs(paired(t, 3), [][]int{{0, 1}, {0, 2}, {1, 2}, {0, 1, 2}}, 4)
}

// ticketOf tells a ticket at random: most of them are there.
func (p *pair) ticketOf(c *chance) uint64 {
	there := p.m.there()
	if len(there) > 0 && c.below(8) > 0 {
		return there[c.below(len(there))].ticket
	}
	odd := p.m.tickets()
	return odd[c.below(len(odd))]
}

// change does a call at random.
func (p *pair) change(c *chance) {
	p.t.Helper()
	switch c.below(16) {
	case 0, 1, 2, 3:
		set := c.set(p.m.blocks, 5)
		if c.below(6) == 0 {
			set[c.below(len(set))] = []int{-1, p.m.blocks, set[0], math.MinInt, math.MaxInt}[c.below(5)]
		}
		n := p.m.greatest() + uint64(c.below(4))
		p.lay(n, set...)
	case 4, 5, 6:
		p.drop(p.ticketOf(c))
	default:
		p.take(p.ticketOf(c))
	}
}

func TestP14_10_RunsAtRandomWithCopies(t *testing.T) {
	c := chance(14)
	for range 60 {
		var pairs []*pair
		for range 3 {
			pairs = append(pairs, paired(t, 1+c.below(9)))
		}
		for range 80 {
			i := c.below(len(pairs))
			pairs[i].change(&c)
			if j := c.below(len(pairs)); c.below(8) == 0 && j != i {
				pairs[j] = pairs[i].copy()
			}
			for _, p := range pairs {
				p.tells()
			}
		}
	}
}

func TestP14_10_RefusedCallsChangeNothing(t *testing.T) {
	p := every(t)
	for range 3 {
		for _, set := range [][]int{nil, {0, 0}, {3, 1}, {-1, -1}, {-1}, {10}, {0, 10}, {math.MinInt, math.MaxInt}} {
			p.goes(!p.lay(13, set...), !p.lay(most, set...), !p.lay(0, set...))
		}
		for _, n := range []uint64{0, 1, 3, 5, 11, 12} {
			p.goes(!p.lay(n, 0), !p.lay(n, upTo(0, 10)...))
		}
		for _, n := range []uint64{0, 1, 2, 3, 5, 6, 10, 12, 13, most} {
			p.goes(!p.take(n))
		}
		for _, n := range []uint64{0, 1, 3, 5, 13, most} {
			p.goes(!p.drop(n))
		}
	}
	p.goes(p.lay(13, 0, 9), p.take(4), p.drop(2), p.take(6))
}

// crowd is a long run with many tickets at once, reckoned beside the locks by numbers of its own.
type crowd struct {
	t      *testing.T
	c      *chance
	l      *lock.Locks
	blocks int
	last   uint64
	sets   map[uint64][]int
	has    map[uint64]int // how many each has locked
	locked map[int]uint64 // who has locked a block
}

// least tells the least ticket that is there; 0: nobody is.
func (r *crowd) least() uint64 {
	var least uint64
	for n := range r.sets {
		if least == 0 || n < least {
			least = n
		}
	}
	return least
}

// holds asks for P14.8 and P14.9: each block's queue rises, and whoever has locked the block, by the crowd's own numbers, stands first in it and is its holder.
func (r *crowd) holds() {
	r.t.Helper()
	stand := 0
	for b := range r.blocks {
		q := r.l.Queue(b)
		stand += len(q)
		if !rising(q) {
			r.t.Fatalf("Queue(%d) = %v", b, q)
		}
		n := r.locked[b]
		holder(r.t, r.l, b, n)
		if n != 0 && (len(q) == 0 || q[0] != n) {
			r.t.Fatalf("block %d is locked by %d, its queue is %v", b, n, q)
		}
	}
	for n, set := range r.sets {
		stand -= len(set)
		held(r.t, r.l, n, set[:r.has[n]]...)
	}
	if stand != 0 {
		r.t.Fatalf("%d more stand in the queues than were laid", stand)
	}
	if n := r.least(); n != 0 {
		ready(r.t, r.l, n, r.has[n] < len(r.sets[n]))
	}
}

func (r *crowd) lay(many int) {
	r.t.Helper()
	r.last += 1 + uint64(r.c.below(3))
	set := r.c.set(r.blocks, many)
	is(r.t, r.l.Lay(r.last, set), api.OK)
	r.sets[r.last] = set
	r.holds()
}

// take lets a ticket lock its next block, if nobody of the crowd that stands there came ahead of it.
func (r *crowd) take(n uint64) {
	r.t.Helper()
	defer r.holds()
	set, k := r.sets[n], r.has[n]
	if k == len(set) {
		takes(r.t, r.l, n, 0, api.ErrState)
		return
	}
	for other, theirs := range r.sets {
		if other < n && slices.Contains(theirs, set[k]) {
			ready(r.t, r.l, n, false)
			takes(r.t, r.l, n, 0, api.ErrFirst)
			return
		}
	}
	ready(r.t, r.l, n, true)
	if by := r.locked[set[k]]; by != 0 {
		r.t.Fatalf("block %d is locked by %d, and %d is Ready", set[k], by, n)
	}
	takes(r.t, r.l, n, set[k], api.OK)
	r.has[n]++
	r.locked[set[k]] = n
}

func (r *crowd) drop(n uint64) {
	r.t.Helper()
	drops(r.t, r.l, n, r.has[n], api.OK)
	for _, b := range r.sets[n][:r.has[n]] {
		delete(r.locked, b)
	}
	delete(r.sets, n)
	delete(r.has, n)
	r.holds()
}

// any tells a ticket at random that is there.
func (r *crowd) any() uint64 {
	var all []uint64
	for n := range r.sets {
		all = append(all, n)
	}
	slices.Sort(all)
	return all[r.c.below(len(all))]
}

func TestP14_8_LongRunsWithManyTickets(t *testing.T) {
	for _, c := range []struct{ blocks, many, crowd int }{{1, 1, 30}, {2, 2, 40}, {8, 4, 60}, {64, 16, 90}, {64, 200, 50}} {
		t.Run(fmt.Sprint(c), func(t *testing.T) {
			luck := chance(148)
			r := &crowd{t: t, c: &luck, l: of(t, c.blocks), blocks: c.blocks, sets: map[uint64][]int{}, has: map[uint64]int{}, locked: map[int]uint64{}}
			for range 1500 {
				if len(r.sets) < c.crowd {
					r.lay(c.many)
				}
				r.take(r.any())
				r.take(r.least())
				// Most of those that go have all; some give up before.
				if n := r.any(); r.has[n] == len(r.sets[n]) || luck.below(20) == 0 {
					r.drop(n)
				}
				if n := r.least(); n != 0 && r.has[n] == len(r.sets[n]) && luck.below(2) == 0 {
					r.drop(n)
				}
			}
			// The least of them, which is Ready until it has all, goes through to the end, one behind the other.
			for r.least() != 0 {
				n := r.least()
				for r.has[n] < len(r.sets[n]) {
					r.take(n)
				}
				r.drop(n)
			}
			gives(t, r.l.All(), nil)
		})
	}
}

func TestP14_8_ALockIsKeptUntilTheDrop(t *testing.T) {
	p := paired(t, 4)
	p.goes(p.lay(1, 0, 1), p.take(1))
	for n := uint64(2); n < 20; n++ {
		p.goes(p.lay(n, 0, 2), !p.take(n), !p.lay(n, 0))
		holder(t, p.l, 0, 1)
		if n%3 == 0 {
			p.goes(p.drop(n-1), !p.take(n))
			holder(t, p.l, 0, 1)
		}
	}
	p.goes(p.take(1), !p.take(1), !p.take(19))
	holder(t, p.l, 0, 1)
	holder(t, p.l, 1, 1)
	p.goes(p.drop(1), !p.take(4), p.take(3))
	holder(t, p.l, 0, 3)
	holder(t, p.l, 1, 0)
}

func TestP14_9_AVeryLongQueue(t *testing.T) {
	const many = 50000
	l := of(t, 2)
	for n := range uint64(many) {
		is(t, l.Lay(n+1, []int{0, 1}), api.OK)
	}
	if q := l.Queue(1); len(q) != many || !rising(q) {
		t.Fatalf("%d stand there", len(q))
	}
	for n := range uint64(many) {
		ready(t, l, n+2, false)
		takes(t, l, n+1, 0, api.OK)
		takes(t, l, n+1, 1, api.OK)
		drops(t, l, n+1, 2, api.OK)
	}
	gives(t, l.All(), nil)
}

// spoil writes over a list, spare room too.
func spoil[T int | uint64](list []T, with T) {
	list = list[:cap(list)]
	for i := range list {
		list[i] = with
	}
}

func TestR3_SetsOfTheCaller(t *testing.T) {
	p := paired(t, 8)
	room := append(make([]int, 0, 9), 1, 4, 6)
	rest := room[:9]
	is(t, p.l.Lay(1, room), api.OK)
	p.m.lay(1, room)
	if !slices.Equal(rest, []int{1, 4, 6, 0, 0, 0, 0, 0, 0}) {
		t.Errorf("Lay has changed %v", rest)
	}
	s, twin := p.l.All(), p.copy()
	was := p.m.there()
	spoil(rest, 7)
	p.tells()
	twin.tells()
	gives(t, s, was)
	p.goes(p.take(1), p.take(1), p.take(1), !p.take(1))
	// One list may be handed in for many tickets, and be changed between them.
	set := []int{0, 1}
	for n := uint64(2); n < 6; n++ {
		is(t, p.l.Lay(n, set), api.OK)
		p.m.lay(n, set)
		set[0], set[1] = set[0]+1, set[1]+2
		p.tells()
	}
	// Refused ones are not changed either.
	for _, c := range [][]int{{3, 1}, {2, 2}, {0, 8}, {-1, 3}, {5}} {
		was := slices.Clone(c)
		p.goes(!p.lay(5, c...))
		p.l.Lay(5, c)
		if !slices.Equal(c, was) {
			t.Errorf("Lay has made %v of %v", c, was)
		}
	}
}

func TestR3_ListsHandedOut(t *testing.T) {
	p := every(t)
	s, twin := p.l.All(), p.copy()
	was := p.m.there()
	for range 2 {
		for b := range 10 {
			spoil(p.l.Queue(b), 99)
		}
		p.tells()
		for _, n := range p.m.tickets() {
			spoil(p.l.Held(n), 9)
		}
		p.tells()
		for _, all := range []iter.Seq2[uint64, []int]{s, p.l.All(), twin.l.All()} {
			for _, set := range all {
				spoil(set, 9)
			}
		}
		gives(t, s, was)
		p.tells()
		twin.tells()
	}
	p.wouldAnswer()
	twin.wouldAnswer()
	p.goes(p.take(4), p.drop(2), p.take(6), p.take(6))
	twin.tells()
}

func TestR3_ListsShareNothing(t *testing.T) {
	// Each list of one answer is changed, spare room too, while the others are looked at.
	p := every(t)
	was := p.m.there()
	first, second := through(t, p.l.All()), through(t, p.l.All())
	for i := range first {
		spoil(first[i].set, 9)
		if !alike(first[i+1:], was[i+1:]) || !alike(second, was) {
			t.Fatalf("the set of %d shares memory with another one", first[i].ticket)
		}
	}
	a, b := p.l.Held(2), p.l.Held(2)
	spoil(a, 9)
	if !slices.Equal(b, []int{4, 5, 6}) {
		t.Error("two answers of Held share memory")
	}
	x, y := p.l.Queue(7), p.l.Queue(7)
	spoil(x, 9)
	if !slices.Equal(y, []uint64{8, 10, 12}) {
		t.Error("two answers of Queue share memory")
	}
}

func TestR5_TheSameRunTwice(t *testing.T) {
	tells := func() string {
		c := chance(55)
		p := paired(t, 6)
		text := ""
		for range 200 {
			p.change(&c)
			for b := range 6 {
				n, ok := p.l.Holder(b)
				text += fmt.Sprint(p.l.Queue(b), n, ok, ";")
			}
			text += fmt.Sprint(through(t, p.l.All()))
		}
		return text
	}
	if tells() != tells() {
		t.Error("two runs with the same calls tell different things")
	}
}

// lays holds what Lay answers against an error.
func lays(t *testing.T, l *lock.Locks, want api.Errno, ticket uint64, set ...int) {
	t.Helper()
	if e := l.Lay(ticket, set); e != want {
		t.Fatalf("Lay(%d, %v) = %d, want %d", ticket, set, e, want)
	}
}

func TestExamples(t *testing.T) {
	for _, n := range []int{0, 65} {
		if l, e := lock.New(n); l != nil || e != api.ErrInput {
			t.Fatalf("New(%d) = %v, %d", n, l, e)
		}
	}
	l := of(t, 4)
	lays(t, l, api.OK, 1, 0, 2)
	lays(t, l, api.OK, 2, 2, 3)
	lays(t, l, api.OK, 3, 0)
	lays(t, l, api.ErrTicket, 3, 1)
	lays(t, l, api.ErrTicket, 2, 1)
	lays(t, l, api.ErrTicket, 0, 1)
	lays(t, l, api.ErrForm, 9)
	lays(t, l, api.ErrForm, 9, 2, 2)
	lays(t, l, api.ErrForm, 9, 3, 1)
	lays(t, l, api.ErrBlock, 9, 4)
	lays(t, l, api.ErrBlock, 1, 4)
	lays(t, l, api.ErrBlock, 9, -1)
	lays(t, l, api.ErrForm, 9, -1, -1)
	queues(t, l, 0, 1, 3)
	queues(t, l, 2, 1, 2)
	queues(t, l, 1)
	queues(t, l, 4)
	for n, want := range map[uint64]bool{1: true, 2: false, 3: false, 7: false} {
		ready(t, l, n, want)
	}
	takes(t, l, 2, 0, api.ErrFirst)
	takes(t, l, 7, 0, api.ErrTicket)
	takes(t, l, 1, 0, api.OK)
	takes(t, l, 1, 2, api.OK)
	takes(t, l, 1, 0, api.ErrState)
	next(t, l, 1, -1)
	next(t, l, 2, 2)
	held(t, l, 1, 0, 2)
	holder(t, l, 2, 1)
	holder(t, l, 3, 0)
	drops(t, l, 1, 2, api.OK)
	drops(t, l, 1, 0, api.ErrTicket)
	ready(t, l, 2, true)
	ready(t, l, 3, true)
	lays(t, l, api.ErrTicket, 1, 1)
	lays(t, l, api.OK, most, 1)
	for _, n := range []uint64{0, 1, 4, 1 << 63, most - 1, most} {
		lays(t, l, api.ErrTicket, n, 1)
	}
}
