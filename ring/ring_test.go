package ring_test

import (
	"iter"
	"math"
	"slices"
	"testing"

	"wicket/api"
	"wicket/ring"
)

// top is the greatest tail that may be.
const top uint64 = api.MaxPos

// most is the greatest number there is.
const most uint64 = math.MaxUint64

// noCapacities: numbers of slots that no log has, each beside an edge or far from all.
var noCapacities = []int{0, 1, -1, -2, -64, 65, 66, 128, 1 << 32, 1<<32 + 4, math.MaxInt, math.MinInt, math.MinInt + 4}

// tails tells tails that may be: both edges, and what lies beside laps of many capacities.
func tails() []uint64 {
	l := []uint64{2, 3, 1 << 31, 1<<32 - 1, 1 << 32, 1<<32 + 1, 1<<53 + 1, 1234567890123456789, top / 2}
	for i := range uint64(70) {
		l = append(l, i, top-i)
	}
	return l
}

// noTails: positions at which no log begins.
var noTails = []uint64{top + 1, top + 2, top + 64, top + 65, 1 << 63, most - 64, most}

// capacities tells all numbers of slots that may be.
func capacities() []int {
	var l []int
	for n := 2; n <= 64; n++ {
		l = append(l, n)
	}
	return l
}

// few tells some positions of a sequence, and fails where it does not end.
func few(t *testing.T, s iter.Seq[uint64]) []uint64 {
	t.Helper()
	var l []uint64
	for p := range s {
		if l = append(l, p); len(l) > 1000 {
			t.Fatal("a sequence that does not end")
		}
	}
	return l
}

// slot tells Slot where there is no error.
func slot(t *testing.T, p uint64, capacity int) int {
	t.Helper()
	s, e := ring.Slot(p, capacity)
	if e != api.OK {
		t.Fatalf("Slot(%d, %d): %d", p, capacity, e)
	}
	return s
}

func TestP3_1Slot(t *testing.T) {
	for _, c := range []struct {
		p        uint64
		capacity int
		want     int
		e        api.Errno
	}{
		{0, 5, 0, api.OK},
		{7, 5, 2, api.OK},
		{top, 64, 0, api.OK},
		{top + 65, 64, 0, api.ErrWrap},
		{7, 1, 0, api.ErrInput},
		{7, 65, 0, api.ErrInput},
		{0, 2, 0, api.OK},
		{1, 2, 1, api.OK},
		{2, 2, 0, api.OK},
		{63, 64, 63, api.OK},
		{64, 64, 0, api.OK},
		{63, 63, 0, api.OK},
		{1<<32 + 1, 64, 1, api.OK},
		{1 << 32, 63, 4, api.OK},
		{top - 1, 64, 63, api.OK},
		{top, 63, 4, api.OK}, // 2^62 is 4 times a power of 64
		{top + 1, 64, 1, api.OK},
		{top + 63, 64, 63, api.OK},
		{top + 64, 64, 0, api.OK},
		{top + 64, 2, 0, api.OK},
		{top + 64, 63, 5, api.OK},
		{top + 65, 2, 0, api.ErrWrap},
		{1 << 63, 64, 0, api.ErrWrap},
		{most, 64, 0, api.ErrWrap},
	} {
		if s, e := ring.Slot(c.p, c.capacity); s != c.want || e != c.e {
			t.Errorf("Slot(%d, %d) = %d, %d, want %d, %d", c.p, c.capacity, s, e, c.want, c.e)
		}
	}
}

func TestP3_1SlotGoesRound(t *testing.T) {
	for _, n := range capacities() {
		want := 0
		for p := range uint64(200) {
			if s := slot(t, p, n); s != want {
				t.Errorf("Slot(%d, %d) = %d, want %d", p, n, s, want)
			}
			if want++; want == n {
				want = 0
			}
		}
	}
}

func TestP3_1SlotOfNoCapacity(t *testing.T) {
	for _, n := range noCapacities {
		for _, p := range []uint64{0, 7, top, top + 64, top + 65, most} {
			if s, e := ring.Slot(p, n); s != 0 || e != api.ErrInput {
				t.Errorf("Slot(%d, %d) = %d, %d", p, n, s, e)
			}
		}
	}
}

func TestP3_2Used(t *testing.T) {
	for _, c := range []struct {
		tail, end uint64
		capacity  int
		want      int
		e         api.Errno
	}{
		{3, 3, 4, 0, api.OK},
		{3, 7, 4, 4, api.OK},
		{3, 8, 4, 0, api.ErrRing},
		{3, 2, 4, 0, api.ErrRing},
		{top + 1, 0, 4, 0, api.ErrWrap},
		{top + 1, 0, 0, 0, api.ErrInput},
		{0, 0, 2, 0, api.OK},
		{0, 1, 2, 1, api.OK},
		{0, 2, 2, 2, api.OK},
		{0, 3, 2, 0, api.ErrRing},
		{0, 64, 64, 64, api.OK},
		{0, 65, 64, 0, api.ErrRing},
		{1, 0, 64, 0, api.ErrRing},
		{0, most, 64, 0, api.ErrRing},
		{1, 1<<32 + 1, 64, 0, api.ErrRing},
		{5, 1<<63 + 5, 64, 0, api.ErrRing},
		{top, top - 1, 64, 0, api.ErrRing},
		{top, top, 64, 0, api.OK},
		{top, top + 64, 64, 64, api.OK},
		{top, top + 65, 64, 0, api.ErrRing},
		{top, 0, 64, 0, api.ErrRing},
		{top, most, 64, 0, api.ErrRing},
	} {
		if n, e := ring.Used(c.tail, c.end, c.capacity); n != c.want || e != c.e {
			t.Errorf("Used(%d, %d, %d) = %d, %d, want %d, %d", c.tail, c.end, c.capacity, n, e, c.want, c.e)
		}
	}
}

func TestP3_2UsedOfAllEnds(t *testing.T) {
	for _, n := range capacities() {
		for _, tail := range tails() {
			for d := range n + 1 {
				if u, e := ring.Used(tail, tail+uint64(d), n); u != d || e != api.OK {
					t.Errorf("Used(%d, tail + %d, %d) = %d, %d", tail, d, n, u, e)
				}
			}
			// of the tail 0 the number one below it is the greatest there is
			for _, end := range []uint64{tail - 1, tail + uint64(n) + 1, tail + 1<<32} {
				if u, e := ring.Used(tail, end, n); u != 0 || e != api.ErrRing {
					t.Errorf("Used(%d, %d, %d) = %d, %d", tail, end, n, u, e)
				}
			}
		}
	}
}

func TestP3_2UsedTellsTheFirstError(t *testing.T) {
	for _, n := range noCapacities {
		for _, c := range [][2]uint64{{3, 3}, {3, 2}, {3, 100}, {top + 1, top + 1}, {top + 1, 0}, {most, 0}} {
			if u, e := ring.Used(c[0], c[1], n); u != 0 || e != api.ErrInput {
				t.Errorf("Used(%d, %d, %d) = %d, %d", c[0], c[1], n, u, e)
			}
		}
	}
	for _, n := range capacities() {
		for _, tail := range noTails {
			for _, end := range []uint64{0, 7, tail - 1, tail, tail + 1, most} {
				if u, e := ring.Used(tail, end, n); u != 0 || e != api.ErrWrap {
					t.Errorf("Used(%d, %d, %d) = %d, %d", tail, end, n, u, e)
				}
			}
		}
	}
}

func TestP3_3Next(t *testing.T) {
	for _, c := range []struct {
		end      uint64
		capacity int
		want     uint64
		e        api.Errno
	}{
		{6, 4, 10, api.OK},
		{top - 4, 4, top, api.OK},
		{top - 3, 4, 0, api.ErrWrap},
		{0, 2, 2, api.OK},
		{0, 64, 64, api.OK},
		{top - 64, 64, top, api.OK},
		{top - 63, 64, 0, api.ErrWrap},
		{top - 2, 2, top, api.OK},
		{top - 1, 2, 0, api.ErrWrap},
		{top, 2, 0, api.ErrWrap},
		{top + 1, 2, 0, api.ErrWrap},
		{1 << 63, 64, 0, api.ErrWrap},
		{most - 3, 4, 0, api.ErrWrap}, // the sum would go round to 0
		{most, 64, 0, api.ErrWrap},
	} {
		if p, e := ring.Next(c.end, c.capacity); p != c.want || e != c.e {
			t.Errorf("Next(%d, %d) = %d, %d, want %d, %d", c.end, c.capacity, p, e, c.want, c.e)
		}
	}
	for _, n := range noCapacities {
		for _, end := range []uint64{0, 6, top - 64, top, most} {
			if p, e := ring.Next(end, n); p != 0 || e != api.ErrInput {
				t.Errorf("Next(%d, %d) = %d, %d", end, n, p, e)
			}
		}
	}
}

func TestP3_3NextOfAllCapacities(t *testing.T) {
	for _, n := range capacities() {
		for _, end := range tails() {
			p, e := ring.Next(end, n)
			if top-end < uint64(n) {
				if p != 0 || e != api.ErrWrap {
					t.Errorf("Next(%d, %d) = %d, %d", end, n, p, e)
				}
			} else if p != end+uint64(n) || e != api.OK {
				t.Errorf("Next(%d, %d) = %d, %d", end, n, p, e)
			}
		}
	}
}

func TestP3_4Owner(t *testing.T) {
	for _, c := range []struct {
		slot     int
		tail     uint64
		capacity int
		want     uint64
		e        api.Errno
	}{
		{1, 6, 4, 9, api.OK},
		{2, 6, 4, 6, api.OK},
		{3, 6, 4, 7, api.OK},
		{0, 6, 4, 8, api.OK},
		{4, 6, 4, 0, api.ErrInput},
		{-1, 6, 4, 0, api.ErrInput},
		{0, 0, 2, 0, api.OK},
		{1, 0, 2, 1, api.OK},
		{0, 1, 2, 2, api.OK},
		{2, 0, 2, 0, api.ErrInput},
		{63, 0, 64, 63, api.OK},
		{63, 64, 64, 127, api.OK},
		{0, 1, 64, 64, api.OK},
		{64, 0, 64, 0, api.ErrInput},
		{0, top, 64, top, api.OK},
		{63, top, 64, top + 63, api.OK},
		{0, top - 1, 64, top, api.OK},
		{62, top - 1, 64, top + 62, api.OK},
		{math.MaxInt, 0, 64, 0, api.ErrInput},
		{math.MinInt, 0, 64, 0, api.ErrInput},
		{1 << 32, 0, 64, 0, api.ErrInput},
	} {
		if p, e := ring.Owner(c.slot, c.tail, c.capacity); p != c.want || e != c.e {
			t.Errorf("Owner(%d, %d, %d) = %d, %d, want %d, %d", c.slot, c.tail, c.capacity, p, e, c.want, c.e)
		}
	}
}

func TestP3_4OwnerTellsTheFirstError(t *testing.T) {
	for _, n := range noCapacities {
		for _, s := range []int{0, 1, -1, n - 1, n, 64} {
			for _, tail := range []uint64{0, 6, top, top + 1, most} {
				if p, e := ring.Owner(s, tail, n); p != 0 || e != api.ErrInput {
					t.Errorf("Owner(%d, %d, %d) = %d, %d", s, tail, n, p, e)
				}
			}
		}
	}
	for _, n := range capacities() {
		for _, tail := range noTails {
			for _, s := range []int{0, n - 1} {
				if p, e := ring.Owner(s, tail, n); p != 0 || e != api.ErrWrap {
					t.Errorf("Owner(%d, %d, %d) = %d, %d", s, tail, n, p, e)
				}
			}
			for _, s := range []int{-1, n, n + 1} {
				if p, e := ring.Owner(s, tail, n); p != 0 || e != api.ErrInput {
					t.Errorf("Owner(%d, %d, %d) = %d, %d", s, tail, n, p, e)
				}
			}
		}
	}
}

func TestP3_5Span(t *testing.T) {
	for _, c := range []struct {
		tail, end uint64
		n         int
	}{
		{6, 9, 3},
		{9, 6, 0},
		{9, 9, 0},
		{0, 1000, 64},
		{most - 2, most, 2},
		{0, 0, 0},
		{0, 1, 1},
		{1, 0, 0},
		{0, 63, 63},
		{0, 64, 64},
		{0, 65, 64},
		{5, 1<<32 + 5, 64},
		{5, 1<<63 + 5, 64},
		{1, most, 64},
		{0, most, 64},
		{most, 0, 0},
		{most, most, 0},
		{most, most - 1, 0},
		{most - 1, most, 1},
		{most - 63, most, 63},
		{most - 64, most, 64},
		{most - 65, most, 64},
		{most - 1000, most, 64},
		{top, top + 64, 64},
		{top + 65, top + 67, 2},
		{1 << 63, 1<<63 + 3, 3},
	} {
		var want []uint64
		for i := range c.n {
			want = append(want, c.tail+uint64(i))
		}
		s := ring.Span(c.tail, c.end)
		if s == nil {
			t.Fatalf("Span(%d, %d) is nil", c.tail, c.end)
		}
		for turn := range 3 {
			if got := few(t, s); !slices.Equal(got, want) {
				t.Errorf("Span(%d, %d), turn %d: %d, want %d", c.tail, c.end, turn, got, want)
			}
		}
	}
}

func TestP3_5SpanEndsEarly(t *testing.T) {
	s := ring.Span(6, 16)
	for stop := range 10 {
		var got []uint64
		for p := range s {
			if got = append(got, p); len(got) == stop+1 {
				break
			}
		}
		if len(got) != stop+1 || got[0] != 6 || got[stop] != 6+uint64(stop) {
			t.Errorf("ended behind %d: %d", stop+1, got)
		}
		if got := few(t, s); len(got) != 10 || got[0] != 6 {
			t.Errorf("again, behind a loop of %d: %d", stop+1, got)
		}
	}
}

// A function that has said that it wants no more is not asked again, not even where the loop is none of the language's own.
func TestP3_5SpanAsksNoMore(t *testing.T) {
	for _, end := range []uint64{7, 8, 70, 1000} {
		calls := 0
		ring.Span(6, end)(func(uint64) bool {
			calls++
			return false
		})
		if calls != 1 {
			t.Errorf("Span(6, %d) asked %d times", end, calls)
		}
	}
}

func TestP3_5SpanWithinItself(t *testing.T) {
	s := ring.Span(6, 9)
	var pairs [][2]uint64
	for p := range s {
		for q := range s {
			if q > p {
				break
			}
			pairs = append(pairs, [2]uint64{p, q})
		}
	}
	want := [][2]uint64{{6, 6}, {7, 6}, {7, 7}, {8, 6}, {8, 7}, {8, 8}}
	if !slices.Equal(pairs, want) {
		t.Errorf("one loop within another: %d, want %d", pairs, want)
	}
}

func TestP3_5SpanInTurns(t *testing.T) {
	s := ring.Span(most-70, most)
	nextA, stopA := iter.Pull(s)
	defer stopA()
	nextB, stopB := iter.Pull(s)
	defer stopB()
	for i := range uint64(64) {
		a, okA := nextA()
		if !okA || a != most-70+i {
			t.Fatalf("the first loop, place %d: %d, %t", i, a, okA)
		}
		if i%2 == 1 {
			b, okB := nextB()
			if !okB || b != most-70+i/2 {
				t.Fatalf("the second loop, place %d: %d, %t", i/2, b, okB)
			}
		}
	}
	if _, ok := nextA(); ok {
		t.Error("the first loop has more than 64")
	}
	if b, ok := nextB(); !ok || b != most-70+32 {
		t.Errorf("the second loop, behind the first one's end: %d, %t", b, ok)
	}
}

func TestP3_6OwnersAndSlots(t *testing.T) {
	for _, n := range capacities() {
		for _, tail := range tails() {
			seen := make([]int, n)
			for p := tail; p < tail+uint64(n); p++ {
				s := slot(t, p, n)
				seen[s]++
				if o, e := ring.Owner(s, tail, n); o != p || e != api.OK {
					t.Errorf("Owner(%d, %d, %d) = %d, %d, want %d", s, tail, n, o, e, p)
				}
			}
			for s, times := range seen {
				if times != 1 {
					t.Errorf("tail %d, capacity %d: %d positions have the slot %d", tail, n, times, s)
				}
				o, e := ring.Owner(s, tail, n)
				if e != api.OK || o < tail || o >= tail+uint64(n) || slot(t, o, n) != s {
					t.Errorf("Owner(%d, %d, %d) = %d, %d", s, tail, n, o, e)
				}
			}
		}
	}
}

func TestP3_7UsedIsHowManySpanHas(t *testing.T) {
	for _, n := range capacities() {
		for _, tail := range tails() {
			for d := range uint64(70) {
				u, e := ring.Used(tail, tail+d, n)
				if (e == api.OK) != (d <= uint64(n)) {
					t.Errorf("Used(%d, tail + %d, %d): %d", tail, d, n, e)
				}
				if got := len(few(t, ring.Span(tail, tail+d))); e == api.OK && u != got {
					t.Errorf("Used(%d, tail + %d, %d) = %d, Span has %d", tail, d, n, u, got)
				}
			}
		}
	}
}

func TestP3_8NextIsBeyondAllLaps(t *testing.T) {
	for _, n := range capacities() {
		for _, end := range tails() {
			next, e := ring.Next(end, n)
			if e != api.OK {
				continue
			}
			if slot(t, next, n) != slot(t, end, n) {
				t.Errorf("Next(%d, %d) = %d, of another slot", end, n, next)
			}
			for back := range min(end, 70) + 1 {
				tail := end - back
				for s := range n {
					if p, e := ring.Owner(s, tail, n); e != api.OK || p >= next {
						t.Errorf("Next(%d, %d) = %d, and the lap of tail %d has %d (%d)", end, n, next, tail, p, e)
					}
				}
			}
		}
	}
}

// What a call answers does not hang on the calls before it.
func TestR5SameAnswers(t *testing.T) {
	ask := func() (l []uint64) {
		for s := range ring.Span(3, 9) {
			for n := -1; n < 66; n += 5 {
				a, e1 := ring.Slot(s, n)
				b, e2 := ring.Used(s, 8, n)
				c, e3 := ring.Next(s, n)
				d, e4 := ring.Owner(int(s), 7, n)
				l = append(l, uint64(a), uint64(b), c, d, uint64(e1), uint64(e2), uint64(e3), uint64(e4))
			}
		}
		return l
	}
	first := ask()
	ring.Used(most, 0, 64)
	for range ring.Span(0, most) {
		break
	}
	if !slices.Equal(ask(), first) {
		t.Error("asked again, the answers are others")
	}
}
