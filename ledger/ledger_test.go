package ledger_test

import (
	"math"
	"slices"
	"testing"

	"wicket/api"
	"wicket/ledger"
)

// most is the greatest ticket that may be.
const most uint64 = math.MaxUint64

// chance tells numbers that look like chance and are the same in each run.
type chance uint64

func (c *chance) next() uint64 {
	*c ^= *c << 13
	*c ^= *c >> 7
	*c ^= *c << 17
	return uint64(*c)
}

// below tells one of 0 to n - 1.
func (c *chance) below(n int) int {
	return int(c.next() % uint64(n))
}

// room is a reservation that was ever made: its ticket, its records so far, and whether it is closed.
type room struct {
	ticket   uint64
	reserved int
	appended int
	closed   bool
}

// model is a ledger by another hand: all reservations that were ever made, and how many records have been freed.
type model struct {
	capacity, mark int
	rooms          []room
	freed          int
}

// open tells where the open reservation of a ticket stands; -1: there is none.
func (m *model) open(ticket uint64) int {
	return slices.IndexFunc(m.rooms, func(r room) bool { return r.ticket == ticket && !r.closed })
}

func (m *model) used() int {
	n := -m.freed
	for _, r := range m.rooms {
		n += r.appended
	}
	return n
}

func (m *model) reserved() int {
	n := 0
	for _, r := range m.rooms {
		if !r.closed {
			n += r.reserved - r.appended
		}
	}
	return n
}

func (m *model) left(ticket uint64) (int, bool) {
	i := m.open(ticket)
	if i < 0 {
		return 0, false
	}
	return m.rooms[i].reserved - m.rooms[i].appended, true
}

// free tells how many more have room.
func (m *model) free() int {
	return m.capacity - m.used() - m.reserved()
}

func (m *model) reserve(ticket uint64, n int) api.Errno {
	switch {
	case ticket == 0 || n < 1:
		return api.ErrInput
	case m.open(ticket) >= 0:
		return api.ErrTicket
	case n > m.free():
		return api.ErrRoom
	}
	m.rooms = append(m.rooms, room{ticket: ticket, reserved: n})
	return api.OK
}

func (m *model) append(ticket uint64) api.Errno {
	i := m.open(ticket)
	if i < 0 {
		return api.ErrTicket
	}
	if m.rooms[i].appended == m.rooms[i].reserved {
		return api.ErrRoom
	}
	m.rooms[i].appended++
	return api.OK
}

func (m *model) close(ticket uint64) api.Errno {
	i := m.open(ticket)
	if i < 0 {
		return api.ErrTicket
	}
	m.rooms[i].closed = true
	return api.OK
}

func (m *model) release(n int) api.Errno {
	if n < 0 || n > m.used() {
		return api.ErrInput
	}
	m.freed += n
	return api.OK
}

func (m *model) copy() *model {
	twin := *m
	twin.rooms = slices.Clone(m.rooms)
	return &twin
}

// of makes a ledger.
func of(t *testing.T, capacity, mark int) *ledger.Ledger {
	t.Helper()
	l, e := ledger.New(capacity, mark)
	if e != api.OK || l == nil {
		t.Fatalf("New(%d, %d) = %v, %d", capacity, mark, l, e)
	}
	return l
}

// is holds an error against another one.
func is(t *testing.T, got, want api.Errno) {
	t.Helper()
	if got != want {
		t.Fatalf("it answers %d, want %d", got, want)
	}
}

// sums holds the two numbers of a ledger, and what is free of its capacity, against others.
func sums(t *testing.T, l *ledger.Ledger, used, reserved, free int) {
	t.Helper()
	if l.Used() != used || l.Reserved() != reserved {
		t.Fatalf("Used %d, Reserved %d, want %d, %d", l.Used(), l.Reserved(), used, reserved)
	}
	for n := 1; n <= free; n++ {
		if !l.Fits(n) {
			t.Fatalf("Fits(%d) is false where %d are free", n, free)
		}
	}
	for _, n := range []int{free + 1, free + 2, 0, -1, -free, math.MinInt, math.MaxInt} {
		if l.Fits(n) {
			t.Fatalf("Fits(%d) is true where %d are free", n, free)
		}
	}
}

// leaves holds what is left of a ticket against a number; -1: the ledger has it not.
func leaves(t *testing.T, l *ledger.Ledger, ticket uint64, want int) {
	t.Helper()
	n, ok := l.Left(ticket)
	if n != max(want, 0) || ok != (want >= 0) {
		t.Fatalf("Left(%d) = %d, %v, want %d", ticket, n, ok, want)
	}
}

// tells holds all that a ledger tells against its model: for each ticket that is named, and each that ever came.
func tells(t *testing.T, l *ledger.Ledger, m *model, tickets ...uint64) {
	t.Helper()
	sums(t, l, m.used(), m.reserved(), m.free())
	if l.Marked() != (m.used() >= m.mark) {
		t.Fatalf("Marked = %v, %d used of a mark of %d", l.Marked(), m.used(), m.mark)
	}
	if l.Used()+l.Reserved() > m.capacity {
		t.Fatalf("Used %d and Reserved %d are above %d", l.Used(), l.Reserved(), m.capacity)
	}
	for _, r := range m.rooms {
		tickets = append(tickets, r.ticket)
	}
	for _, ticket := range tickets {
		want := -1
		if n, ok := m.left(ticket); ok {
			want = n
		}
		leaves(t, l, ticket, want)
	}
}

// pair is a ledger beside its model: each call is done with both.
type pair struct {
	t       *testing.T
	l       *ledger.Ledger
	m       *model
	tickets []uint64 // beside those that came, these are asked for too
}

func paired(t *testing.T, capacity, mark int, tickets ...uint64) *pair {
	t.Helper()
	return &pair{t, of(t, capacity, mark), &model{capacity: capacity, mark: mark}, tickets}
}

func (p *pair) copy() *pair {
	return &pair{p.t, p.l.Copy(), p.m.copy(), p.tickets}
}

func (p *pair) tells() {
	p.t.Helper()
	tells(p.t, p.l, p.m, p.tickets...)
}

// answers holds two answers of one call against each other, and the ledger against its model behind it.
func (p *pair) answers(call string, got, want api.Errno) {
	p.t.Helper()
	if got != want {
		p.t.Fatalf("%s = %d, want %d: %+v", call, got, want, *p.m)
	}
	p.tells()
}

func (p *pair) reserve(ticket uint64, n int) {
	p.t.Helper()
	p.answers("Reserve", p.l.Reserve(ticket, n), p.m.reserve(ticket, n))
}

func (p *pair) append(ticket uint64) {
	p.t.Helper()
	before := p.l.Used() + p.l.Reserved()
	p.answers("Append", p.l.Append(ticket), p.m.append(ticket))
	if sum := p.l.Used() + p.l.Reserved(); sum != before {
		p.t.Fatalf("Append makes of the sum %d a sum of %d", before, sum)
	}
}

func (p *pair) close(ticket uint64) {
	p.t.Helper()
	before := p.l.Used() + p.l.Reserved()
	p.answers("Close", p.l.Close(ticket), p.m.close(ticket))
	if sum := p.l.Used() + p.l.Reserved(); sum > before {
		p.t.Fatalf("Close makes of the sum %d a sum of %d", before, sum)
	}
}

func (p *pair) free(n int) {
	p.t.Helper()
	before := p.l.Used() + p.l.Reserved()
	p.answers("Free", p.l.Free(n), p.m.release(n))
	if sum := p.l.Used() + p.l.Reserved(); sum > before {
		p.t.Fatalf("Free makes of the sum %d a sum of %d", before, sum)
	}
}

func TestP12_1_NewMadeAndRefused(t *testing.T) {
	sizes := []int{math.MinInt, math.MinInt + 1, -65, -64, -2, -1, math.MaxInt - 1, math.MaxInt}
	for n := range 131 {
		sizes = append(sizes, n)
	}
	for _, capacity := range sizes {
		for _, mark := range sizes {
			l, e := ledger.New(capacity, mark)
			if capacity >= 2 && capacity <= 64 && mark >= 1 && mark <= capacity {
				if e != api.OK || l == nil {
					t.Fatalf("New(%d, %d) = %v, %d", capacity, mark, l, e)
				}
				tells(t, l, &model{capacity: capacity, mark: mark}, 0, 1, most)
			} else if e != api.ErrInput || l != nil {
				t.Fatalf("New(%d, %d) = %v, %d, want ErrInput", capacity, mark, l, e)
			}
		}
	}
}

func TestP12_1_NewHasNothing(t *testing.T) {
	l := of(t, api.MaxLog, 1)
	sums(t, l, 0, 0, api.MaxLog)
	for _, ticket := range []uint64{0, 1, 2, 64, most} {
		leaves(t, l, ticket, -1)
		is(t, l.Append(ticket), api.ErrTicket)
		is(t, l.Close(ticket), api.ErrTicket)
	}
	is(t, l.Free(1), api.ErrInput)
	if l.Marked() {
		t.Error("a new ledger is marked")
	}
}

func TestP12_1_LedgersOfTheirOwn(t *testing.T) {
	a, b := paired(t, 4, 2, 1, 2), paired(t, 4, 2, 1, 2)
	a.reserve(1, 3)
	b.tells()
	a.append(1)
	b.reserve(1, 4)
	b.append(1)
	b.append(1)
	a.tells()
	b.close(1)
	a.tells()
	a.free(1)
	b.tells()
}

func TestP12_2_FitsWhatIsFree(t *testing.T) {
	for capacity := 2; capacity <= api.MaxLog; capacity++ {
		for used := 0; used <= capacity; used += 1 + capacity/7 {
			for reserved := 0; used+reserved <= capacity; reserved += 1 + capacity/9 {
				l := of(t, capacity, 1)
				for n := range used {
					is(t, l.Reserve(uint64(n+1), 1), api.OK)
					is(t, l.Append(uint64(n+1)), api.OK)
					is(t, l.Close(uint64(n+1)), api.OK)
				}
				if reserved > 0 {
					is(t, l.Reserve(100, reserved), api.OK)
				}
				sums(t, l, used, reserved, capacity-used-reserved)
			}
		}
	}
}

func TestP12_2_FitsOnItsEdges(t *testing.T) {
	l := of(t, 9, 9)
	is(t, l.Reserve(1, 5), api.OK)
	is(t, l.Append(1), api.OK)
	is(t, l.Append(1), api.OK)
	// Two are used and three reserved: four are free.
	for _, c := range []struct {
		n    int
		fits bool
	}{
		{math.MinInt, false}, {math.MinInt + 1, false}, {-9, false}, {-4, false}, {-1, false}, {0, false},
		{1, true}, {3, true}, {4, true}, {5, false}, {6, false}, {7, false}, {9, false}, {10, false},
		{math.MaxInt - 5, false}, {math.MaxInt - 4, false}, {math.MaxInt - 1, false}, {math.MaxInt, false},
	} {
		if l.Fits(c.n) != c.fits {
			t.Errorf("Fits(%d) = %v", c.n, !c.fits)
		}
	}
}

func TestP12_2_FitsChangesNothing(t *testing.T) {
	p := paired(t, 6, 3, 1, 2)
	p.reserve(1, 2)
	p.append(1)
	for _, n := range []int{math.MinInt, -1, 0, 1, 4, 5, math.MaxInt} {
		for range 3 {
			p.l.Fits(n)
		}
		p.tells()
	}
}

func TestP12_3_ReserveJustWhatIsFree(t *testing.T) {
	for capacity := 2; capacity <= api.MaxLog; capacity++ {
		for n := -2; n <= capacity+2; n++ {
			p := paired(t, capacity, capacity, 7)
			p.reserve(7, n)
			q := paired(t, capacity, capacity, 7, 8)
			q.reserve(8, capacity/2)
			q.append(8)
			q.reserve(7, n)
		}
	}
}

func TestP12_3_ReserveOnItsEdges(t *testing.T) {
	for _, c := range []struct {
		name   string
		ticket uint64
		n      int
		want   api.Errno
	}{
		{"just what is free", 2, 4, api.OK},
		{"one", 2, 1, api.OK},
		{"the greatest ticket", most, 4, api.OK},
		{"one more than is free", 2, 5, api.ErrRoom},
		{"the capacity", 2, 9, api.ErrRoom},
		{"one beyond the capacity", 2, 10, api.ErrRoom},
		{"the greatest int", 2, math.MaxInt, api.ErrRoom},
		{"the greatest int less what is taken", 2, math.MaxInt - 4, api.ErrRoom},
		{"the greatest int, the greatest ticket", most, math.MaxInt, api.ErrRoom},
		{"nothing", 2, 0, api.ErrInput},
		{"below nothing", 2, -1, api.ErrInput},
		{"far below nothing", 2, -5, api.ErrInput},
		{"the least int", 2, math.MinInt, api.ErrInput},
		{"no ticket", 0, 1, api.ErrInput},
		{"no ticket, just what is free", 0, 4, api.ErrInput},
		{"no ticket, one more than is free", 0, 5, api.ErrInput},
		{"no ticket, the greatest int", 0, math.MaxInt, api.ErrInput},
		{"no ticket, nothing", 0, 0, api.ErrInput},
		{"no ticket, the least int", 0, math.MinInt, api.ErrInput},
		{"a ticket that is there", 1, 1, api.ErrTicket},
		{"a ticket that is there, one more than is free", 1, 5, api.ErrTicket},
		{"a ticket that is there, the greatest int", 1, math.MaxInt, api.ErrTicket},
		{"a ticket that is there, nothing", 1, 0, api.ErrInput},
		{"a ticket that is there, the least int", 1, math.MinInt, api.ErrInput},
		{"a ticket with nothing left", 3, 1, api.ErrTicket},
		{"a ticket with nothing left, one more than is free", 3, 5, api.ErrTicket},
		{"a ticket with nothing left, nothing", 3, 0, api.ErrInput},
		{"a ticket that was closed", 4, 4, api.OK},
		{"a ticket that was closed, one more than is free", 4, 5, api.ErrRoom},
		{"a ticket that was closed, nothing", 4, 0, api.ErrInput},
	} {
		t.Run(c.name, func(t *testing.T) {
			// Two are used; three are reserved for 1, nothing is left of 3, and 4 is closed: four are free.
			p := paired(t, 9, 3, 0, 1, 2, 3, 4, most)
			p.reserve(1, 4)
			p.append(1)
			p.reserve(3, 1)
			p.append(3)
			p.reserve(4, 2)
			p.close(4)
			sums(t, p.l, 2, 3, 4)
			wanted := p.copy()
			is(t, wanted.m.reserve(c.ticket, c.n), c.want)
			is(t, p.l.Reserve(c.ticket, c.n), c.want)
			tells(t, p.l, wanted.m, p.tickets...)
			if c.want == api.OK {
				leaves(t, p.l, c.ticket, c.n)
				sums(t, p.l, 2, 3+c.n, 4-c.n)
			} else {
				sums(t, p.l, 2, 3, 4)
			}
		})
	}
}

func TestP12_3_TicketsInAnyOrder(t *testing.T) {
	// A later reservation may be of a smaller ticket: their order is nobody's here.
	p := paired(t, 10, 5)
	for _, ticket := range []uint64{most, 1, 1 << 63, 1<<63 - 1, 5, most - 1, 1<<32 + 1, 1 << 32} {
		p.reserve(ticket, 1)
	}
	sums(t, p.l, 0, 8, 2)
	p.append(1 << 63)
	leaves(t, p.l, 1<<63, 0)
	leaves(t, p.l, 1<<63-1, 1)
	leaves(t, p.l, 1, 1)
}

func TestP12_4_AppendTakesOneOfOne(t *testing.T) {
	p := paired(t, 8, 4, 3)
	p.reserve(1, 3)
	p.reserve(2, 2)
	p.append(1)
	sums(t, p.l, 1, 4, 3)
	leaves(t, p.l, 1, 2)
	leaves(t, p.l, 2, 2)
	p.append(2)
	p.append(1)
	p.append(1)
	sums(t, p.l, 4, 1, 3)
	leaves(t, p.l, 1, 0)
	leaves(t, p.l, 2, 1)
}

func TestP12_4_AppendRefused(t *testing.T) {
	p := paired(t, 5, 2, 0, 1, 2, 3, 4, most)
	p.reserve(1, 1)
	p.append(1)
	p.reserve(2, 2)
	p.reserve(3, 1)
	p.close(3)
	for range 3 {
		is(t, p.l.Append(1), api.ErrRoom)
		p.tells()
		for _, ticket := range []uint64{0, 3, 4, most} {
			is(t, p.l.Append(ticket), api.ErrTicket)
			p.tells()
		}
	}
	// That there is room beside it does not help a ticket with nothing left.
	sums(t, p.l, 1, 2, 2)
	p.append(2)
	is(t, p.l.Append(1), api.ErrRoom)
}

func TestP12_4_AppendInAFullLog(t *testing.T) {
	p := paired(t, 4, 4, 1, 2)
	p.reserve(1, 2)
	p.reserve(2, 2)
	sums(t, p.l, 0, 4, 0)
	for _, ticket := range []uint64{1, 2, 2, 1} {
		is(t, p.l.Copy().Append(ticket), api.OK)
		p.append(ticket)
	}
	sums(t, p.l, 4, 0, 0)
	is(t, p.l.Append(1), api.ErrRoom)
	is(t, p.l.Append(2), api.ErrRoom)
	p.tells()
}

func TestP12_4_CloseGivesBackWhatIsLeft(t *testing.T) {
	for reserved := 1; reserved <= 6; reserved++ {
		for appended := 0; appended <= reserved; appended++ {
			p := paired(t, 7, 3, 1, 2)
			p.reserve(2, 1)
			p.reserve(1, reserved)
			for range appended {
				p.append(1)
			}
			is(t, p.l.Close(1), api.OK)
			sums(t, p.l, appended, 1, 6-appended)
			leaves(t, p.l, 1, -1)
			leaves(t, p.l, 2, 1)
			is(t, p.l.Close(1), api.ErrTicket)
			is(t, p.l.Append(1), api.ErrTicket)
			sums(t, p.l, appended, 1, 6-appended)
		}
	}
}

func TestP12_4_CloseRefused(t *testing.T) {
	p := paired(t, 5, 2, 0, 1, 2, 3, 4, most)
	p.reserve(1, 1)
	p.append(1)
	p.reserve(2, 2)
	p.reserve(3, 1)
	p.close(3)
	for range 3 {
		for _, ticket := range []uint64{0, 3, 4, most} {
			is(t, p.l.Close(ticket), api.ErrTicket)
			p.tells()
		}
	}
	is(t, p.l.Close(1), api.OK)
	sums(t, p.l, 1, 2, 2)
	is(t, p.l.Close(1), api.ErrTicket)
	sums(t, p.l, 1, 2, 2)
}

func TestP12_5_Free(t *testing.T) {
	for _, n := range []int{math.MinInt, math.MinInt + 1, -5, -4, -1, 0, 1, 2, 3, 4, 5, 6, 7, 64, math.MaxInt - 1, math.MaxInt} {
		p := paired(t, 9, 4, 1, 2)
		p.reserve(1, 6)
		for range 4 {
			p.append(1)
		}
		// Four are used, two reserved, three free.
		if n < 0 || n > 4 {
			is(t, p.l.Free(n), api.ErrInput)
			p.tells()
			sums(t, p.l, 4, 2, 3)
		} else {
			is(t, p.l.Free(n), api.OK)
			sums(t, p.l, 4-n, 2, 3+n)
			is(t, p.l.Free(5-n), api.ErrInput)
			sums(t, p.l, 4-n, 2, 3+n)
			is(t, p.l.Free(4-n), api.OK)
			sums(t, p.l, 0, 2, 7)
		}
		leaves(t, p.l, 1, 2)
		leaves(t, p.l, 2, -1)
	}
}

func TestP12_5_FreeOfNothingUsed(t *testing.T) {
	p := paired(t, 4, 1, 1)
	for range 2 {
		is(t, p.l.Free(0), api.OK)
		p.tells()
		for _, n := range []int{1, 2, 4, -1, math.MinInt, math.MaxInt} {
			is(t, p.l.Free(n), api.ErrInput)
			p.tells()
		}
		p.reserve(1, 3) // what is reserved is not used
	}
}

func TestP12_5_FreeGivesRoomAndNoReservation(t *testing.T) {
	p := paired(t, 3, 3, 1, 2)
	p.reserve(1, 3)
	for range 3 {
		p.append(1)
	}
	is(t, p.l.Reserve(2, 1), api.ErrRoom)
	p.free(2)
	is(t, p.l.Append(1), api.ErrRoom)
	is(t, p.l.Reserve(1, 1), api.ErrTicket)
	p.reserve(2, 2)
	sums(t, p.l, 1, 2, 0)
	p.tells()
}

func TestP12_6_LeftIsNothingOrNotThere(t *testing.T) {
	p := paired(t, 6, 6, 0, 1, 2)
	leaves(t, p.l, 1, -1)
	p.reserve(1, 2)
	leaves(t, p.l, 1, 2)
	p.append(1)
	leaves(t, p.l, 1, 1)
	p.append(1)
	leaves(t, p.l, 1, 0)
	p.free(2)
	leaves(t, p.l, 1, 0)
	p.close(1)
	leaves(t, p.l, 1, -1)
	leaves(t, p.l, 0, -1)
	leaves(t, p.l, most, -1)
	p.reserve(1, 4)
	leaves(t, p.l, 1, 4)
}

func TestP12_6_MarkedByWhatIsUsed(t *testing.T) {
	for capacity := 2; capacity <= 12; capacity++ {
		for mark := 1; mark <= capacity; mark++ {
			l := of(t, capacity, mark)
			is(t, l.Reserve(1, capacity), api.OK)
			for used := range capacity + 1 {
				if l.Marked() != (used >= mark) {
					t.Fatalf("Marked = %v, %d used of a mark of %d", l.Marked(), used, mark)
				}
				l.Append(1)
			}
			is(t, l.Close(1), api.OK)
			for used := capacity; used >= 0; used-- {
				if l.Marked() != (used >= mark) {
					t.Fatalf("Marked = %v behind Free, %d used of a mark of %d", l.Marked(), used, mark)
				}
				l.Free(1)
			}
		}
	}
}

func TestP12_6_MarkedTwiceAndByNoReservation(t *testing.T) {
	l := of(t, 6, 3)
	marked := func(want bool) {
		t.Helper()
		if l.Marked() != want {
			t.Fatalf("Marked = %v, %d used", l.Marked(), l.Used())
		}
	}
	for round := range uint64(3) {
		is(t, l.Reserve(round+1, 6), api.OK)
		marked(false)
		for used := 1; used <= 4; used++ {
			is(t, l.Append(round+1), api.OK)
			marked(used >= 3)
		}
		is(t, l.Free(1), api.OK)
		marked(true)
		is(t, l.Free(1), api.OK)
		marked(false)
		is(t, l.Append(round+1), api.OK)
		marked(true)
		is(t, l.Close(round+1), api.OK)
		marked(true)
		is(t, l.Free(3), api.OK)
		marked(false)
	}
}

func TestP12_6_CopiesAndTheFirstLedgerDoNotMeet(t *testing.T) {
	changes := []struct {
		name string
		do   func(p *pair)
	}{
		{"nothing", func(*pair) {}},
		{"reserved for another", func(p *pair) { p.reserve(9, 3) }},
		{"reserved for all that is free", func(p *pair) { p.reserve(8, 4); p.reserve(9, 1) }},
		{"appended", func(p *pair) { p.append(1) }},
		{"appended all", func(p *pair) { p.append(1); p.append(1); p.append(2); p.append(1) }},
		{"closed", func(p *pair) { p.close(1) }},
		{"closed one with nothing left", func(p *pair) { p.close(3) }},
		{"closed all", func(p *pair) { p.close(3); p.close(2); p.close(1) }},
		{"closed and reserved anew", func(p *pair) { p.close(2); p.reserve(2, 3) }},
		{"freed", func(p *pair) { p.free(1) }},
		{"freed all", func(p *pair) { p.free(2) }},
		{"emptied and filled", func(p *pair) { p.close(1); p.close(2); p.close(3); p.free(2); p.reserve(1, 9) }},
	}
	for _, a := range changes {
		for _, b := range changes {
			t.Run(a.name+", "+b.name, func(t *testing.T) {
				first := paired(t, 9, 3, 0, 1, 2, 3, 8, 9)
				first.reserve(1, 3)
				first.append(1)
				first.reserve(2, 1)
				first.reserve(3, 1)
				first.append(3)
				twin := first.copy()
				twin.tells()
				a.do(first)
				twin.tells()
				b.do(twin)
				first.tells()
				twin.tells()
			})
		}
	}
}

func TestP12_6_ACopyOfACopy(t *testing.T) {
	a := paired(t, 6, 2, 1, 2, 3)
	a.reserve(1, 2)
	b := a.copy()
	b.append(1)
	b.reserve(2, 2)
	c := b.copy()
	c.tells()
	c.close(1)
	c.append(2)
	c.append(2)
	a.reserve(3, 4)
	b.free(1)
	a.tells()
	b.tells()
	c.tells()
	sums(t, a.l, 0, 6, 0)
	sums(t, b.l, 0, 3, 3)
	sums(t, c.l, 3, 0, 3)
}

func TestP12_6_ACopyOfAnEmptyLedger(t *testing.T) {
	a := paired(t, 2, 1, 1, 2)
	b := a.copy()
	b.tells()
	b.reserve(1, 2)
	a.tells()
	a.reserve(2, 1)
	a.append(2)
	b.tells()
	a.tells()
}

func TestP12_6_ACopyHasTheCapacityAndTheMark(t *testing.T) {
	for capacity := 2; capacity <= api.MaxLog; capacity++ {
		for _, mark := range []int{1, (capacity + 1) / 2, capacity} {
			c := paired(t, capacity, mark, 1).copy()
			c.reserve(1, capacity+1)
			c.reserve(1, capacity)
			for range capacity + 1 {
				c.append(1)
			}
		}
	}
}

func TestP12_7_NilInEveryCall(t *testing.T) {
	var l *ledger.Ledger
	numbers := []int{math.MinInt, -1, 0, 1, 2, 64, math.MaxInt}
	for range 2 {
		for _, ticket := range []uint64{0, 1, most} {
			for _, n := range numbers {
				is(t, l.Reserve(ticket, n), api.ErrHandle)
			}
			is(t, l.Append(ticket), api.ErrHandle)
			is(t, l.Close(ticket), api.ErrHandle)
			leaves(t, l, ticket, -1)
		}
		for _, n := range numbers {
			is(t, l.Free(n), api.ErrHandle)
			if l.Fits(n) {
				t.Errorf("Fits(%d) of a nil ledger", n)
			}
		}
		if l.Used() != 0 || l.Reserved() != 0 {
			t.Errorf("Used %d, Reserved %d of a nil ledger", l.Used(), l.Reserved())
		}
		if l.Marked() {
			t.Error("a nil ledger is marked")
		}
		if l.Copy() != nil {
			t.Error("a copy of a nil ledger is not nil")
		}
	}
}

// call does one of thirteen calls with two tickets.
func (p *pair) call(n int) {
	p.t.Helper()
	switch ticket := uint64(1 + n%2); n / 2 {
	case 0, 1, 2:
		p.reserve(ticket, 1+n/2)
	case 3:
		p.append(ticket)
	case 4:
		p.close(ticket)
	case 5:
		p.free(n - 9)
	default:
		p.reserve(ticket, 0)
	}
}

// tries does all runs of so many calls, each on a copy of what stands behind the calls ahead of it.
func (p *pair) tries(calls int) {
	p.t.Helper()
	if calls == 0 {
		return
	}
	for n := range 13 {
		twin := p.copy()
		twin.call(n)
		twin.tries(calls - 1)
	}
	p.tells()
}

func TestP12_8_AllShortRuns(t *testing.T) {
	paired(t, 3, 2, 0, 1, 2).tries(5)
}

func TestP12_8_AllShortRunsWithoutCopies(t *testing.T) {
	for n := range 13 * 13 * 13 * 13 {
		p := paired(t, 3, 2, 0, 1, 2)
		for range 4 {
			p.call(n % 13)
			n /= 13
		}
	}
}

// ticketOf tells a ticket at random: of a few, so that most have been there.
func (p *pair) ticketOf(c *chance) uint64 {
	if c.below(30) == 0 {
		return []uint64{0, most, c.next()}[c.below(3)]
	}
	return uint64(1 + c.below(12))
}

// numberOf tells a number at random: mostly a small one, else one on an edge.
func (p *pair) numberOf(c *chance) int {
	switch c.below(12) {
	case 0:
		return p.m.free() + c.below(3) - 1
	case 1:
		return p.m.used() + c.below(3) - 1
	case 2:
		return []int{math.MinInt, math.MaxInt, -1, 0}[c.below(4)]
	}
	return 1 + c.below(5)
}

// change does a call at random.
func (p *pair) change(c *chance) {
	p.t.Helper()
	switch c.below(10) {
	case 0, 1, 2:
		p.reserve(p.ticketOf(c), p.numberOf(c))
	case 3, 4, 5, 6:
		p.append(p.ticketOf(c))
	case 7:
		p.close(p.ticketOf(c))
	default:
		p.free(p.numberOf(c))
	}
}

func TestP12_8_RunsAtRandomWithCopies(t *testing.T) {
	c := chance(12)
	for range 150 {
		var pairs []*pair
		for range 3 {
			capacity := 2 + c.below(api.MaxLog-1)
			pairs = append(pairs, paired(t, capacity, 1+c.below(capacity), 0, 1, 12, most))
		}
		for range 150 {
			i := c.below(len(pairs))
			pairs[i].change(&c)
			if j := c.below(len(pairs)); c.below(8) == 0 && j != i {
				pairs[j] = pairs[i].copy()
			}
			for _, p := range pairs {
				p.tells()
			}
		}
	}
}

func TestP12_8_LongRunsWithManyTickets(t *testing.T) {
	// Transactions as a run has them: many at once, each with images and a commit, some closed early, the tail freed now and then.
	c := chance(8)
	l := of(t, api.MaxLog, 48)
	left := map[uint64]int{}
	var open []uint64
	next, used, reserved := uint64(1), 0, 0
	for range 20000 {
		switch n := 1 + c.below(9); {
		case c.below(3) == 0:
			want := api.OK
			if used+reserved+n > api.MaxLog {
				want = api.ErrRoom
			}
			is(t, l.Reserve(next, n), want)
			if want == api.OK {
				open, left[next] = append(open, next), n
				reserved += n
				next++
			}
		case c.below(9) == 0:
			n = c.below(used + 1)
			is(t, l.Free(n), api.OK)
			used -= n
		case len(open) > 0:
			i := c.below(len(open))
			ticket := open[i]
			if left[ticket] == 0 || c.below(10) == 0 {
				is(t, l.Close(ticket), api.OK)
				reserved -= left[ticket]
				open = slices.Delete(open, i, i+1)
				delete(left, ticket)
				leaves(t, l, ticket, -1)
			} else {
				is(t, l.Append(ticket), api.OK)
				left[ticket]--
				used, reserved = used+1, reserved-1
				leaves(t, l, ticket, left[ticket])
			}
		}
		sums(t, l, used, reserved, api.MaxLog-used-reserved)
	}
	if next < 1000 {
		t.Errorf("only %d tickets came", next)
	}
}

func TestP12_8_ManyTicketsThatAreNeverClosed(t *testing.T) {
	// A ledger may have far more tickets than its capacity: with nothing left they take no room.
	const many = 100000
	l := of(t, 2, 1)
	for ticket := uint64(1); ticket <= many; ticket++ {
		is(t, l.Reserve(ticket, 2), api.OK)
		is(t, l.Append(ticket), api.OK)
		is(t, l.Append(ticket), api.OK)
		is(t, l.Free(2), api.OK)
	}
	sums(t, l, 0, 0, 2)
	for _, ticket := range []uint64{1, 2, many / 2, many} {
		leaves(t, l, ticket, 0)
		is(t, l.Reserve(ticket, 1), api.ErrTicket)
		is(t, l.Append(ticket), api.ErrRoom)
		is(t, l.Close(ticket), api.OK)
		is(t, l.Reserve(ticket, 1), api.OK)
		is(t, l.Close(ticket), api.OK)
	}
	sums(t, l, 0, 0, 2)
}

func TestP12_9_JustSoManyWhateverOthersDo(t *testing.T) {
	c := chance(9)
	for range 400 {
		capacity := 2 + c.below(api.MaxLog-1)
		p := paired(t, capacity, 1+c.below(capacity))
		const mine = 1000 // no ticket that the others take
		for range 3 {
			for !p.l.Fits(1) {
				p.change(&c)
			}
			n := 1 + c.below(p.m.free())
			is(t, p.l.Reserve(mine, n), api.OK)
			is(t, p.m.reserve(mine, n), api.OK)
			for done := range n {
				for range c.below(6) {
					p.change(&c)
				}
				leaves(t, p.l, mine, n-done)
				is(t, p.l.Append(mine), api.OK)
				is(t, p.m.append(mine), api.OK)
				p.tells()
			}
			for range c.below(6) {
				p.change(&c)
				is(t, p.l.Append(mine), api.ErrRoom)
			}
			p.append(mine)
			p.close(mine)
		}
	}
}

func TestP12_9_AnewBehindClose(t *testing.T) {
	p := paired(t, 8, 8, 1)
	for n := 1; n <= 8; n++ {
		for appended := 0; appended <= n; appended++ {
			p.reserve(1, n)
			leaves(t, p.l, 1, n)
			for range appended {
				is(t, p.l.Append(1), api.OK)
				is(t, p.m.append(1), api.OK)
				p.tells()
			}
			if appended == n {
				is(t, p.l.Append(1), api.ErrRoom)
			}
			p.close(1)
			is(t, p.l.Append(1), api.ErrTicket)
			sums(t, p.l, appended, 0, 8-appended)
			p.free(appended)
		}
	}
}

func TestR2_TheFirstErrorThatApplies(t *testing.T) {
	// Each call where a later error would hold as well; what is refused has changed nothing.
	p := paired(t, 2, 1, 0, 1, 2)
	p.reserve(1, 2)
	p.append(1)
	p.append(1)
	for _, c := range []struct {
		name      string
		got, want api.Errno
	}{
		{"no ticket and no room", p.l.Reserve(0, 1), api.ErrInput},
		{"nothing, a ticket that is there and no room", p.l.Reserve(1, 0), api.ErrInput},
		{"a ticket that is there and no room", p.l.Reserve(1, 1), api.ErrTicket},
		{"no room", p.l.Reserve(2, 1), api.ErrRoom},
		{"a ticket that is not there, with nothing left", p.l.Append(2), api.ErrTicket},
		{"nothing left", p.l.Append(1), api.ErrRoom},
		{"a ticket that is not there", p.l.Close(2), api.ErrTicket},
		{"more than is used", p.l.Free(3), api.ErrInput},
	} {
		if c.got != c.want {
			t.Errorf("%s: %d, want %d", c.name, c.got, c.want)
		}
	}
	p.tells()
}

func TestR5_TwoLedgersWithTheSameCallsAreAlike(t *testing.T) {
	a, b := chance(5), chance(5)
	p, q := paired(t, 20, 10, 1, 2), paired(t, 20, 10, 1, 2)
	for range 300 {
		p.change(&a)
		q.change(&b)
		tells(t, p.l, q.m)
		tells(t, q.l, p.m)
	}
}

func TestR6_AskingChangesNothing(t *testing.T) {
	p := paired(t, 5, 1, 1, 2)
	p.reserve(1, 3)
	p.append(1)
	for range 3 {
		p.l.Used()
		p.l.Reserved()
		p.l.Marked()
		p.l.Left(1)
		p.l.Left(2)
		p.l.Fits(1)
		p.l.Copy().Append(1)
		p.l.Copy().Close(1)
		p.tells()
	}
	// A ticket that was asked for has not come by that.
	is(t, p.l.Append(2), api.ErrTicket)
	p.reserve(2, 2)
}

func TestExamples1To3(t *testing.T) {
	l := of(t, 4, 3)
	for n, want := range map[int]bool{4: true, 5: false, 0: false, -1: false} {
		if l.Fits(n) != want {
			t.Errorf("Fits(%d) = %v", n, !want)
		}
	}
	is(t, l.Reserve(7, 3), api.OK)
	if l.Reserved() != 3 || !l.Fits(1) || l.Fits(2) {
		t.Errorf("Reserved %d, Fits(1) %v, Fits(2) %v", l.Reserved(), l.Fits(1), l.Fits(2))
	}
	is(t, l.Reserve(7, 1), api.ErrTicket)
	is(t, l.Reserve(8, 2), api.ErrRoom)
	is(t, l.Reserve(0, 9), api.ErrInput)
	is(t, l.Reserve(8, 0), api.ErrInput)

	is(t, l.Append(7), api.OK)
	is(t, l.Append(7), api.OK)
	sums(t, l, 2, 1, 1)
	leaves(t, l, 7, 1)
	if l.Marked() {
		t.Error("Marked with 2 used")
	}
	is(t, l.Append(9), api.ErrTicket)
	is(t, l.Append(7), api.OK)
	sums(t, l, 3, 0, 1)
	if !l.Marked() {
		t.Error("not Marked with 3 used")
	}
	is(t, l.Append(7), api.ErrRoom)
	is(t, l.Close(7), api.OK)
	is(t, l.Close(7), api.ErrTicket)
	leaves(t, l, 7, -1)

	is(t, l.Free(4), api.ErrInput)
	is(t, l.Free(-1), api.ErrInput)
	is(t, l.Free(3), api.OK)
	sums(t, l, 0, 0, 4)
}

func TestExample4(t *testing.T) {
	for _, c := range []struct{ capacity, mark int }{{1, 1}, {65, 1}, {4, 0}, {4, 5}} {
		if l, e := ledger.New(c.capacity, c.mark); l != nil || e != api.ErrInput {
			t.Errorf("New(%d, %d) = %v, %d", c.capacity, c.mark, l, e)
		}
	}
}
