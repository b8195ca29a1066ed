package ticket_test

import (
	"iter"
	"math"
	"slices"
	"testing"

	"wicket/api"
	"wicket/ticket"
)

// most is the greatest ticket that may be.
const most uint64 = math.MaxUint64

// chance tells numbers that look like chance and are the same in each run.
type chance uint64

func (c *chance) next() uint64 {
	*c ^= *c << 13
	*c ^= *c >> 7
	*c ^= *c << 17
	return uint64(*c)
}

// below tells one of 0 to n - 1.
func (c *chance) below(n int) int {
	return int(c.next() % uint64(n))
}

// model is a queue by another hand: all that ever came, and which of them are gone.
type model struct {
	came []uint64
	gone []bool
}

// there tells the tickets that have come and are not gone.
func (m *model) there() []uint64 {
	var l []uint64
	for i, t := range m.came {
		if !m.gone[i] {
			l = append(l, t)
		}
	}
	return l
}

// greatest tells the greatest that ever came.
func (m *model) greatest() uint64 {
	var g uint64
	for _, t := range m.came {
		g = max(g, t)
	}
	return g
}

func (m *model) put(t uint64) api.Errno {
	if t == 0 {
		return api.ErrTicket
	}
	for _, other := range m.came {
		if t <= other {
			return api.ErrTicket
		}
	}
	m.came, m.gone = append(m.came, t), append(m.gone, false)
	return api.OK
}

func (m *model) drop(t uint64) api.Errno {
	for i, other := range m.came {
		if other == t && !m.gone[i] {
			m.gone[i] = true
			return api.OK
		}
	}
	return api.ErrTicket
}

func (m *model) take() (uint64, bool) {
	l := m.there()
	if len(l) == 0 {
		return 0, false
	}
	m.drop(l[0])
	return l[0], true
}

func (m *model) copy() *model {
	return &model{slices.Clone(m.came), slices.Clone(m.gone)}
}

// few tells the tickets of a sequence, and fails where it does not end.
func few(t *testing.T, s iter.Seq[uint64]) []uint64 {
	t.Helper()
	if s == nil {
		t.Fatal("All is nil")
	}
	var l []uint64
	for n := range s {
		if l = append(l, n); len(l) > 1<<20 {
			t.Fatal("a sequence that does not end")
		}
	}
	return l
}

// tells asks a queue for all that it tells of its tickets, and, by a copy, for what has ever come.
func tells(t *testing.T, q *ticket.Queue, greatest uint64, want ...uint64) {
	t.Helper()
	if l := few(t, q.All()); !slices.Equal(l, want) {
		t.Fatalf("All gives %v, want %v", l, want)
	}
	if n := q.Len(); n != len(want) {
		t.Fatalf("Len = %d of %v", n, want)
	}
	var first uint64
	if len(want) > 0 {
		first = want[0]
	}
	if n, ok := q.First(); n != first || ok != (len(want) > 0) {
		t.Fatalf("First = %d, %v of %v", n, ok, want)
	}
	for i, n := range want {
		if p := q.Place(n); p != i {
			t.Fatalf("Place(%d) = %d of %v", n, p, want)
		}
	}
	ever(t, q, greatest)
}

// ever holds what has ever come against the greatest of it: a ticket at it is refused, one above it is not.
func ever(t *testing.T, q *ticket.Queue, greatest uint64) {
	t.Helper()
	for _, n := range []uint64{0, greatest / 2, greatest} {
		if e := q.Copy().Put(n); e != api.ErrTicket {
			t.Fatalf("Put(%d) = %d where %d has come", n, e, greatest)
		}
	}
	if greatest == most {
		return
	}
	if e := q.Copy().Put(greatest + 1); e != api.OK {
		t.Fatalf("Put(%d) = %d where %d is the greatest", greatest+1, e, greatest)
	}
}

// put puts tickets that may come.
func put(t *testing.T, q *ticket.Queue, tickets ...uint64) {
	t.Helper()
	for _, n := range tickets {
		if e := q.Put(n); e != api.OK {
			t.Fatalf("Put(%d) = %d", n, e)
		}
	}
}

// of tells a queue of tickets.
func of(t *testing.T, tickets ...uint64) *ticket.Queue {
	t.Helper()
	q := &ticket.Queue{}
	put(t, q, tickets...)
	return q
}

// take takes tickets, which are those.
func take(t *testing.T, q *ticket.Queue, want ...uint64) {
	t.Helper()
	for _, n := range want {
		if got, ok := q.Take(); got != n || !ok {
			t.Fatalf("Take = %d, %v, want %d", got, ok, n)
		}
	}
}

// drop drops tickets that are there.
func drop(t *testing.T, q *ticket.Queue, tickets ...uint64) {
	t.Helper()
	for _, n := range tickets {
		if e := q.Drop(n); e != api.OK {
			t.Fatalf("Drop(%d) = %d", n, e)
		}
	}
}

// takesNothing asks a queue without tickets for its first one.
func takesNothing(t *testing.T, q *ticket.Queue) {
	t.Helper()
	if n, ok := q.First(); n != 0 || ok {
		t.Errorf("First = %d, %v of no tickets", n, ok)
	}
	if n, ok := q.Take(); n != 0 || ok {
		t.Errorf("Take = %d, %v of no tickets", n, ok)
	}
}

// refuses puts tickets that may not come; nothing may change.
func refuses(t *testing.T, q *ticket.Queue, tickets ...uint64) {
	t.Helper()
	was := few(t, q.All())
	for _, n := range tickets {
		if e := q.Put(n); e != api.ErrTicket {
			t.Errorf("Put(%d) = %d of %v", n, e, was)
		}
		if l := few(t, q.All()); !slices.Equal(l, was) {
			t.Errorf("Put(%d) has made %v of %v", n, l, was)
		}
	}
}

// lacks asks for tickets that are not there; nothing may change.
func lacks(t *testing.T, q *ticket.Queue, tickets ...uint64) {
	t.Helper()
	was := few(t, q.All())
	for _, n := range tickets {
		if p := q.Place(n); p != -1 {
			t.Errorf("Place(%d) = %d of %v", n, p, was)
		}
		if e := q.Drop(n); e != api.ErrTicket {
			t.Errorf("Drop(%d) = %d of %v", n, e, was)
		}
		if l := few(t, q.All()); !slices.Equal(l, was) {
			t.Errorf("Drop(%d) has made %v of %v", n, l, was)
		}
	}
}

func TestP11_1_PutStandsAtTheEnd(t *testing.T) {
	q := &ticket.Queue{}
	var l []uint64
	for _, n := range []uint64{1, 2, 5, 6, 1000, 1 << 31, 1 << 32, 1<<32 + 1, 1 << 62, 1<<62 + 1, 1 << 63, 1<<63 + 1, most - 1, most} {
		put(t, q, n)
		l = append(l, n)
		tells(t, q, n, l...)
	}
}

func TestP11_1_FirstTickets(t *testing.T) {
	for _, n := range []uint64{1, 2, 7, 1 << 32, 1 << 63, most} {
		q := of(t, n)
		tells(t, q, n, n)
	}
}

func TestP11_1_NoTicketIsZero(t *testing.T) {
	q := &ticket.Queue{}
	refuses(t, q, 0, 0)
	tells(t, q, 0)
	put(t, q, 1)
	refuses(t, q, 0)
	tells(t, q, 1, 1)
	take(t, q, 1)
	refuses(t, q, 0)
	tells(t, q, 1)
	put(t, q, most)
	refuses(t, q, 0)
	tells(t, q, most, most)
}

func TestP11_1_BelowAtAndAboveTheGreatest(t *testing.T) {
	for _, c := range []struct {
		name  string
		leave func(q *ticket.Queue)
		left  []uint64
	}{
		{"all are there", func(*ticket.Queue) {}, []uint64{3, 7, 9}},
		{"the first was taken", func(q *ticket.Queue) { q.Take() }, []uint64{7, 9}},
		{"one in the midst was dropped", func(q *ticket.Queue) { q.Drop(7) }, []uint64{3, 9}},
		{"the greatest was dropped", func(q *ticket.Queue) { q.Drop(9) }, []uint64{3, 7}},
		{"the greatest two were dropped", func(q *ticket.Queue) { q.Drop(9); q.Drop(7) }, []uint64{3}},
		{"all were taken", func(q *ticket.Queue) { q.Take(); q.Take(); q.Take() }, nil},
		{"all were dropped", func(q *ticket.Queue) { q.Drop(9); q.Drop(3); q.Drop(7) }, nil},
		{"the greatest was taken alone", func(q *ticket.Queue) { q.Drop(3); q.Drop(7); q.Take() }, nil},
		{"taken from, once empty", func(q *ticket.Queue) { q.Take(); q.Take(); q.Take(); q.Take() }, nil},
	} {
		t.Run(c.name, func(t *testing.T) {
			q := of(t, 3, 7, 9)
			c.leave(q)
			// 4, 5 and 8 never came, and are refused all the same.
			refuses(t, q, 0, 1, 2, 3, 4, 5, 7, 8, 9)
			tells(t, q, 9, c.left...)
			put(t, q, 10)
			tells(t, q, 10, append(c.left, 10)...)
			refuses(t, q, 8, 9, 10)
			put(t, q, 11)
			tells(t, q, 11, append(c.left, 10, 11)...)
		})
	}
}

func TestP11_1_BehindTheGreatestThereIsNone(t *testing.T) {
	no := []uint64{0, 1, 2, 1 << 31, 1 << 32, 1 << 62, 1 << 63, most - 1, most}
	q := of(t, 5, most)
	refuses(t, q, no...)
	tells(t, q, most, 5, most)
	drop(t, q, most)
	refuses(t, q, no...)
	tells(t, q, most, 5)
	take(t, q, 5)
	refuses(t, q, no...)
	tells(t, q, most)
	q = of(t, most)
	take(t, q, most)
	refuses(t, q, no...)
	tells(t, q, most)
}

func TestP11_1_NumbersAreHeldAgainstEachOtherWhole(t *testing.T) {
	// Numbers whose lower halves, or whose signs, would say the other order.
	q := of(t, 1<<32+9, 1<<33+1, 1<<63+1)
	refuses(t, q, 1<<32+10, 1<<33, 1<<62, 1<<63-1, 1<<63)
	tells(t, q, 1<<63+1, 1<<32+9, 1<<33+1, 1<<63+1)
	lacks(t, q, 9, 1, 1<<34+1, 1<<63+9)
	put(t, q, 1<<63+2)
	tells(t, q, 1<<63+2, 1<<32+9, 1<<33+1, 1<<63+1, 1<<63+2)
}

func TestP11_2_FirstTakesNothing(t *testing.T) {
	q := of(t, 4, 6)
	for range 3 {
		if n, ok := q.First(); n != 4 || !ok {
			t.Errorf("First = %d, %v", n, ok)
		}
	}
	tells(t, q, 6, 4, 6)
}

func TestP11_2_TakeGivesTheFirst(t *testing.T) {
	q := of(t, 4, 6, most)
	take(t, q, 4)
	tells(t, q, most, 6, most)
	take(t, q, 6)
	tells(t, q, most, most)
	take(t, q, most)
	tells(t, q, most)
	takesNothing(t, q)
	tells(t, q, most)
}

func TestP11_2_DropWhateverItsPlace(t *testing.T) {
	all := []uint64{2, 3, 5, 8, 13}
	for i, n := range all {
		q := of(t, all...)
		if p := q.Place(n); p != i {
			t.Errorf("Place(%d) = %d", n, p)
		}
		drop(t, q, n)
		left := slices.Delete(slices.Clone(all), i, i+1)
		tells(t, q, 13, left...)
		lacks(t, q, n)
		refuses(t, q, n)
		take(t, q, left...)
		takesNothing(t, q)
	}
}

func TestP11_2_DropAllInEachOrder(t *testing.T) {
	var try func(q *ticket.Queue, left []uint64)
	try = func(q *ticket.Queue, left []uint64) {
		tells(t, q, 50, left...)
		for i, n := range left {
			c := q.Copy()
			drop(t, c, n)
			lacks(t, c, n)
			try(c, slices.Delete(slices.Clone(left), i, i+1))
		}
	}
	try(of(t, 10, 20, 30, 40, 50), []uint64{10, 20, 30, 40, 50})
}

func TestP11_2_DropAndPlaceOfWhatIsNotThere(t *testing.T) {
	no := []uint64{0, 1, 2, 4, 6, 8, 10, 1<<32 + 3, 1 << 63, most}
	q := of(t, 3, 5, 7, 9)
	lacks(t, q, no...)
	tells(t, q, 9, 3, 5, 7, 9)
	take(t, q, 3)
	drop(t, q, 7)
	lacks(t, q, append(no, 3, 7)...)
	tells(t, q, 9, 5, 9)
	take(t, q, 5, 9)
	lacks(t, q, append(no, 3, 5, 7, 9)...)
	tells(t, q, 9)
	put(t, q, 11)
	lacks(t, q, append(no, 3, 5, 7, 9)...)
	tells(t, q, 11, 11)
}

func TestP11_2_DropTwice(t *testing.T) {
	q := of(t, 1, 2)
	drop(t, q, 1)
	if e := q.Drop(1); e != api.ErrTicket {
		t.Errorf("Drop(1) twice = %d", e)
	}
	tells(t, q, 2, 2)
}

func TestP11_2_ADropMakesRoomForNone(t *testing.T) {
	// A ticket that is dropped leaves no hole: a later one stands behind all others.
	q := of(t, 1, 2, 3)
	drop(t, q, 2)
	put(t, q, 4)
	tells(t, q, 4, 1, 3, 4)
	drop(t, q, 4)
	put(t, q, 5)
	tells(t, q, 5, 1, 3, 5)
}

func TestP11_2_EmptyEmptiedAndFilledAgain(t *testing.T) {
	q := &ticket.Queue{}
	tells(t, q, 0)
	takesNothing(t, q)
	lacks(t, q, 0, 1, most)
	var n uint64
	for range 5 {
		put(t, q, n+1, n+2, n+3)
		tells(t, q, n+3, n+1, n+2, n+3)
		take(t, q, n+1)
		drop(t, q, n+3)
		take(t, q, n+2)
		tells(t, q, n+3)
		takesNothing(t, q)
		lacks(t, q, 0, 1, n+1, n+2, n+3, n+4)
		tells(t, q, n+3)
		n += 3
	}
}

func TestZeroValueInEveryCall(t *testing.T) {
	// Each call comes first to a zero value of its own.
	fresh := func() *ticket.Queue { return &ticket.Queue{} }
	if n, ok := fresh().First(); n != 0 || ok {
		t.Errorf("First = %d, %v", n, ok)
	}
	if n, ok := fresh().Take(); n != 0 || ok {
		t.Errorf("Take = %d, %v", n, ok)
	}
	for _, n := range []uint64{0, 1, most} {
		if e := fresh().Drop(n); e != api.ErrTicket {
			t.Errorf("Drop(%d) = %d", n, e)
		}
		if p := fresh().Place(n); p != -1 {
			t.Errorf("Place(%d) = %d", n, p)
		}
	}
	if e := fresh().Put(0); e != api.ErrTicket {
		t.Errorf("Put(0) = %d", e)
	}
	for _, n := range []uint64{1, most} {
		if e := fresh().Put(n); e != api.OK {
			t.Errorf("Put(%d) = %d", n, e)
		}
	}
	if n := fresh().Len(); n != 0 {
		t.Errorf("Len = %d", n)
	}
	if l := few(t, fresh().All()); len(l) != 0 {
		t.Errorf("All gives %v", l)
	}
	if fresh().Copy() == nil {
		t.Error("Copy is nil")
	}
	var held struct{ ticket.Queue }
	put(t, &held.Queue, 1)
	tells(t, &held.Queue, 1, 1)
}

func TestNilInEveryCall(t *testing.T) {
	var q *ticket.Queue
	for _, n := range []uint64{0, 1, most} {
		if e := q.Put(n); e != api.ErrHandle {
			t.Errorf("Put(%d) = %d", n, e)
		}
		if e := q.Drop(n); e != api.ErrHandle {
			t.Errorf("Drop(%d) = %d", n, e)
		}
		if p := q.Place(n); p != -1 {
			t.Errorf("Place(%d) = %d", n, p)
		}
	}
	takesNothing(t, q)
	if n := q.Len(); n != 0 {
		t.Errorf("Len = %d", n)
	}
	s := q.All()
	for range 2 {
		if l := few(t, s); len(l) != 0 {
			t.Errorf("All gives %v", l)
		}
	}
	if q.Copy() != nil {
		t.Error("Copy is not nil")
	}
}

func TestP11_3_AllTellsTheQueueAsItIsRangedOver(t *testing.T) {
	q := &ticket.Queue{}
	s := q.All()
	asks := func(want ...uint64) {
		t.Helper()
		for range 2 {
			if l := few(t, s); !slices.Equal(l, want) {
				t.Errorf("All gives %v, want %v", l, want)
			}
		}
	}
	asks()
	put(t, q, 3)
	asks(3)
	put(t, q, 7, 9, 12)
	asks(3, 7, 9, 12)
	refuses(t, q, 12, 10)
	asks(3, 7, 9, 12)
	take(t, q, 3)
	asks(7, 9, 12)
	drop(t, q, 9)
	asks(7, 12)
	drop(t, q, 12)
	asks(7)
	take(t, q, 7)
	asks()
	put(t, q, 13, 14)
	asks(13, 14)
}

func TestP11_3_AllEndsWhenOneHasEnough(t *testing.T) {
	all := []uint64{3, 7, 9, 12}
	q := of(t, all...)
	s := q.All()
	for enough := 1; enough <= len(all); enough++ {
		var l []uint64
		s(func(n uint64) bool {
			l = append(l, n)
			return len(l) != enough
		})
		if !slices.Equal(l, all[:enough]) {
			t.Errorf("All gives %v to one who has enough behind %d", l, enough)
		}
	}
	for n := range s {
		if n == 9 {
			break
		}
	}
	if l := few(t, s); !slices.Equal(l, all) {
		t.Errorf("All gives %v behind a loop that was broken off", l)
	}
	tells(t, q, 12, all...)
}

func TestP11_3_OneLoopWithinTheOther(t *testing.T) {
	q := of(t, 1, 2, 3)
	s := q.All()
	var l []uint64
	for a := range s {
		for b := range s {
			l = append(l, 10*a+b)
			if a == 2 && b == 2 {
				break
			}
		}
	}
	if want := []uint64{11, 12, 13, 21, 22, 31, 32, 33}; !slices.Equal(l, want) {
		t.Errorf("loops give %v, want %v", l, want)
	}
	tells(t, q, 3, 1, 2, 3)
}

func TestP11_3_TwoWhoPullInTurn(t *testing.T) {
	s := of(t, 1, 2, 3).All()
	a, endA := iter.Pull(s)
	defer endA()
	b, endB := iter.Pull(s)
	defer endB()
	for _, want := range []uint64{1, 2, 3, 0} {
		x, okX := a()
		y, okY := b()
		if x != want || y != want || okX != (want != 0) || okY != okX {
			t.Errorf("pulled %d, %v and %d, %v, want %d", x, okX, y, okY, want)
		}
	}
}

func TestP11_3_AllIsNeverNil(t *testing.T) {
	emptied := of(t, 1)
	take(t, emptied, 1)
	for _, q := range []*ticket.Queue{nil, {}, of(t, 1), emptied} {
		if q.All() == nil {
			t.Error("All is nil")
		}
	}
}

func TestP11_3_LoopsThatChangeTheQueueEnd(t *testing.T) {
	// What such a loop is given is free; that it ends is not, nor what the queue is behind it.
	q := of(t, 1, 2, 3, 4, 5)
	last, turns := uint64(5), 0
	var dropped []uint64
	for range q.All() {
		if turns++; turns > 1000 {
			t.Fatal("a loop that does not end")
		}
		q.Take()
		put(t, q, last+1, last+2)
		last += 2
		if q.Drop(last) == api.OK {
			dropped = append(dropped, last)
		}
	}
	if turns == 0 || len(dropped) != turns {
		t.Errorf("%d turns, and %d tickets dropped in them", turns, len(dropped))
	}
	want := []uint64{1, 2, 3, 4, 5}
	for n := uint64(6); n <= last; n += 2 {
		want = append(want, n)
	}
	tells(t, q, last, want[turns:]...)
}

func TestP11_4_CopiesAndTheFirstQueueDoNotMeet(t *testing.T) {
	changes := []struct {
		name string
		do   func(q *ticket.Queue)
		left []uint64
		ever uint64
	}{
		{"nothing", func(*ticket.Queue) {}, []uint64{3, 7, 9}, 9},
		{"put into", func(q *ticket.Queue) { put(t, q, 10) }, []uint64{3, 7, 9, 10}, 10},
		{"put another into", func(q *ticket.Queue) { put(t, q, 11, 15) }, []uint64{3, 7, 9, 11, 15}, 15},
		{"put the greatest into", func(q *ticket.Queue) { put(t, q, most) }, []uint64{3, 7, 9, most}, most},
		{"taken from", func(q *ticket.Queue) { take(t, q, 3, 7) }, []uint64{9}, 9},
		{"the first dropped", func(q *ticket.Queue) { drop(t, q, 3) }, []uint64{7, 9}, 9},
		{"the midst dropped", func(q *ticket.Queue) { drop(t, q, 7) }, []uint64{3, 9}, 9},
		{"the last dropped", func(q *ticket.Queue) { drop(t, q, 9) }, []uint64{3, 7}, 9},
		{"emptied", func(q *ticket.Queue) { take(t, q, 3, 7, 9) }, nil, 9},
		{"filled again", func(q *ticket.Queue) { take(t, q, 3, 7, 9); put(t, q, 20, 21) }, []uint64{20, 21}, 21},
	}
	for _, a := range changes {
		for _, b := range changes {
			t.Run(a.name+", "+b.name, func(t *testing.T) {
				// With and without spare room behind the tickets, and with a place free ahead of them.
				for _, q := range []*ticket.Queue{of(t, 3, 7, 9), of(t, 1, 2, 3, 7, 9)} {
					q.Drop(1)
					q.Drop(2)
					c := q.Copy()
					tells(t, c, 9, 3, 7, 9)
					a.do(q)
					tells(t, q, a.ever, a.left...)
					tells(t, c, 9, 3, 7, 9)
					b.do(c)
					tells(t, c, b.ever, b.left...)
					tells(t, q, a.ever, a.left...)
				}
			})
		}
	}
}

func TestP11_4_ACopyOfACopy(t *testing.T) {
	a := of(t, 1, 2, 3)
	b := a.Copy()
	take(t, b, 1)
	put(t, b, 8)
	c := b.Copy()
	tells(t, c, 8, 2, 3, 8)
	drop(t, c, 3)
	put(t, c, 9)
	put(t, a, 4)
	take(t, b, 2)
	tells(t, a, 4, 1, 2, 3, 4)
	tells(t, b, 8, 3, 8)
	tells(t, c, 9, 2, 8, 9)
}

func TestP11_4_WhatHasEverComeIsCopied(t *testing.T) {
	q := of(t, 3, 7, 9)
	drop(t, q, 9)
	c := q.Copy()
	refuses(t, c, 7, 8, 9)
	tells(t, c, 9, 3, 7)
	take(t, q, 3, 7)
	c = q.Copy()
	tells(t, c, 9)
	takesNothing(t, c)
	refuses(t, c, 1, 3, 7, 8, 9)
	put(t, c, 10)
	tells(t, c, 10, 10)
	tells(t, q, 9)
	put(t, q, 11)
	tells(t, q, 11, 11)
	tells(t, c, 10, 10)
	q = of(t, most)
	take(t, q, most)
	refuses(t, q.Copy(), 1, most-1, most)
}

func TestP11_4_ACopyOfAnEmptyQueue(t *testing.T) {
	q := &ticket.Queue{}
	c := q.Copy()
	tells(t, c, 0)
	put(t, c, 2)
	tells(t, q, 0)
	put(t, q, 1)
	tells(t, q, 1, 1)
	tells(t, c, 2, 2)
}

func TestP11_4_AllOfACopyIsTheCopys(t *testing.T) {
	q := of(t, 1, 2)
	c := q.Copy()
	ofQ, ofC := q.All(), c.All()
	take(t, q, 1)
	put(t, c, 5)
	if l := few(t, ofQ); !slices.Equal(l, []uint64{2}) {
		t.Errorf("the first queue's All gives %v", l)
	}
	if l := few(t, ofC); !slices.Equal(l, []uint64{1, 2, 5}) {
		t.Errorf("the copy's All gives %v", l)
	}
}

func TestP11_4_ACopyWhileItIsGoneThrough(t *testing.T) {
	q := of(t, 1, 2, 3)
	var l []uint64
	for n := range q.All() {
		c := q.Copy()
		drop(t, c, n)
		put(t, c, 10+n)
		l = append(l, n)
	}
	if !slices.Equal(l, []uint64{1, 2, 3}) {
		t.Errorf("All gives %v while copies are changed", l)
	}
	tells(t, q, 3, 1, 2, 3)
}

// step does one of nine calls with a queue and with its model, and holds their answers against each other.
func step(t *testing.T, q *ticket.Queue, m *model, call int) {
	t.Helper()
	switch {
	case call < 4:
		if e, want := q.Put(uint64(call+1)), m.put(uint64(call+1)); e != want {
			t.Fatalf("Put(%d) = %d, want %d", call+1, e, want)
		}
	case call < 8:
		if e, want := q.Drop(uint64(call-3)), m.drop(uint64(call-3)); e != want {
			t.Fatalf("Drop(%d) = %d, want %d", call-3, e, want)
		}
	default:
		n, ok := q.Take()
		if want, wantOK := m.take(); n != want || ok != wantOK {
			t.Fatalf("Take = %d, %v, want %d, %v", n, ok, want, wantOK)
		}
	}
}

func TestP11_1_To_11_6_AllShortRuns(t *testing.T) {
	runs := 1
	for length := range 6 {
		for n := range runs {
			q, m := &ticket.Queue{}, &model{}
			for range length {
				step(t, q, m, n%9)
				n /= 9
			}
			there := m.there()
			tells(t, q, m.greatest(), there...)
			for k := range uint64(6) {
				if p := q.Place(k); p != slices.Index(there, k) {
					t.Fatalf("Place(%d) = %d of %v", k, p, there)
				}
			}
		}
		runs *= 9
	}
}

func TestP11_1_To_11_6_RunsWithCopies(t *testing.T) {
	c := chance(11)
	for range 200 {
		queues := []*ticket.Queue{{}, {}, {}}
		models := []*model{{}, {}, {}}
		for range 60 {
			i := c.below(len(queues))
			change(t, &c, queues[i], models[i])
			if j := c.below(len(queues)); c.below(6) == 0 && j != i {
				queues[j], models[j] = queues[i].Copy(), models[i].copy()
			}
			for k, q := range queues {
				tells(t, q, models[k].greatest(), models[k].there()...)
			}
		}
	}
}

// change does a call at random with a queue and with its model: mostly one that is not refused.
func change(t *testing.T, c *chance, q *ticket.Queue, m *model) {
	t.Helper()
	there := m.there()
	switch n := m.greatest() + uint64(c.below(6)) - 2; c.below(5) {
	case 0, 1:
		if e, want := q.Put(n), m.put(n); e != want {
			t.Fatalf("Put(%d) = %d, want %d: %v of %v", n, e, want, there, m.came)
		}
	case 2:
		if e, want := q.Drop(n), m.drop(n); e != want {
			t.Fatalf("Drop(%d) = %d, want %d: %v of %v", n, e, want, there, m.came)
		}
	case 3:
		if len(there) == 0 {
			return
		}
		n = there[c.below(len(there))]
		m.drop(n)
		drop(t, q, n)
	default:
		n, ok := q.Take()
		if want, wantOK := m.take(); n != want || ok != wantOK {
			t.Fatalf("Take = %d, %v, want %d, %v: of %v", n, ok, want, wantOK, there)
		}
	}
}

func TestP11_5_TheyRise(t *testing.T) {
	c := chance(5)
	q := &ticket.Queue{}
	for range 5000 {
		switch n := c.next() >> c.below(64); c.below(4) {
		case 0:
			q.Take()
		case 1:
			first, _ := q.First()
			q.Drop(first + uint64(c.below(3)))
		default:
			if c.below(8) == 0 {
				q = &ticket.Queue{} // what comes soon stands near the greatest number there is
			}
			q.Put(n)
		}
		var last uint64
		for n := range q.All() {
			if n <= last {
				t.Fatalf("%d stands behind %d", n, last)
			}
			last = n
		}
	}
}

func TestP11_6_TakeGivesThemAsTheyCame(t *testing.T) {
	c := chance(6)
	for range 300 {
		q := &ticket.Queue{}
		var want, got []uint64
		var n uint64
		for range 40 {
			n += uint64(1 + c.below(3))
			put(t, q, n)
			if c.below(3) == 0 {
				drop(t, q, n)
			} else {
				want = append(want, n)
			}
			if c.below(3) == 0 {
				if k, ok := q.Take(); ok {
					got = append(got, k)
				}
			}
		}
		for q.Len() > 0 {
			k, _ := q.Take()
			got = append(got, k)
		}
		if !slices.Equal(got, want) {
			t.Fatalf("Take gives %v, want %v", got, want)
		}
	}
}

func TestP11_6_LongQueuesInTurn(t *testing.T) {
	const long = 50000
	q := &ticket.Queue{}
	var put1, took uint64
	for range long {
		put1++
		put(t, q, put1)
	}
	for range 4 * long {
		put1++
		took++
		put(t, q, put1)
		take(t, q, took)
	}
	if q.Len() != long {
		t.Fatalf("Len = %d", q.Len())
	}
	want := took
	for n := range q.All() {
		if want++; n != want {
			t.Fatalf("All gives %d, want %d", n, want)
		}
	}
	if want != put1 || q.Place(took+1) != 0 || q.Place(put1) != long-1 || q.Place(took) != -1 {
		t.Errorf("All ends with %d, want %d", want, put1)
	}
	for took < put1 {
		took++
		take(t, q, took)
	}
	takesNothing(t, q)
	tells(t, q, put1)
}

func TestP11_6_LongQueuesWithDrops(t *testing.T) {
	q := &ticket.Queue{}
	var want []uint64
	for n := uint64(1); n <= 3000; n++ {
		put(t, q, n)
	}
	for n := uint64(1); n <= 3000; n++ {
		if n%3 == 0 {
			drop(t, q, n)
		} else {
			want = append(want, n)
		}
	}
	tells(t, q, 3000, want...)
	for n := uint64(3000); n > 1500; n-- {
		if n%3 != 0 {
			drop(t, q, n)
			want = want[:len(want)-1]
		}
	}
	tells(t, q, 3000, want...)
	put(t, q, 3001)
	take(t, q, append(want, 3001)...)
	takesNothing(t, q)
}

func TestP11_6_ShortQueuesInTurn(t *testing.T) {
	for _, length := range []uint64{0, 1, 2, 3, 7, 8, 9} {
		q := &ticket.Queue{}
		var last uint64
		for last < length {
			last++
			put(t, q, last)
		}
		for range 300 {
			last++
			put(t, q, last)
			take(t, q, last-length)
			if q.Len() != int(length) {
				t.Fatalf("Len = %d, want %d", q.Len(), length)
			}
		}
	}
}

func TestR5_QueuesOfTheirOwn(t *testing.T) {
	a, b := of(t, 5, 9), of(t, 1)
	put(t, b, 2)
	tells(t, a, 9, 5, 9)
	tells(t, b, 2, 1, 2)
	take(t, a, 5)
	put(t, b, 5)
	tells(t, a, 9, 9)
	tells(t, b, 5, 1, 2, 5)
}

func TestR6_AskingChangesNothing(t *testing.T) {
	q := of(t, 3, 7, 9)
	drop(t, q, 9)
	for range 3 {
		q.First()
		q.Place(7)
		q.Place(9)
		q.Place(0)
		q.Len()
		q.Copy().Take()
		for range q.All() {
			break
		}
		tells(t, q, 9, 3, 7)
	}
}

func TestExample1(t *testing.T) {
	q := &ticket.Queue{}
	if n, ok := q.First(); n != 0 || ok {
		t.Errorf("First = %d, %v", n, ok)
	}
	if n, ok := q.Take(); n != 0 || ok {
		t.Errorf("Take = %d, %v", n, ok)
	}
	if p := q.Place(1); p != -1 {
		t.Errorf("Place(1) = %d", p)
	}
	if e := q.Drop(1); e != api.ErrTicket {
		t.Errorf("Drop(1) = %d", e)
	}
	if e := q.Put(0); e != api.ErrTicket {
		t.Errorf("Put(0) = %d", e)
	}
}

func TestExample2(t *testing.T) {
	q := of(t, 3, 7, 9)
	refuses(t, q, 9, 4)
	tells(t, q, 9, 3, 7, 9)
	if p := q.Place(7); p != 1 {
		t.Errorf("Place(7) = %d", p)
	}
	drop(t, q, 7)
	refuses(t, q, 7)
	tells(t, q, 9, 3, 9)
	take(t, q, 3, 9)
	takesNothing(t, q)
	refuses(t, q, 9)
	put(t, q, 10)
	tells(t, q, 10, 10)
}

func TestExample3(t *testing.T) {
	q := of(t, 3)
	c := q.Copy()
	put(t, c, 4)
	tells(t, q, 3, 3)
	put(t, q, 4)
	tells(t, q, 4, 3, 4)
	tells(t, c, 4, 3, 4)
}
