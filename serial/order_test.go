package serial_test

import (
	"fmt"
	"math"
	"slices"
	"testing"

	"wicket/api"
	"wicket/history"
	"wicket/serial"
)

// ordering holds what Order answers.
func ordering(t *testing.T, rows []api.Row, want []int, wantNo api.Errno) {
	t.Helper()
	order, no := serial.Order(rows)
	must(t, no == wantNo && slices.Equal(order, want), "Order answers %v, %d, want %v, %d, of %+v", order, no, want, wantNo, rows)
}

// TestOrderOfFates: 24.1, those that count alone, whatever the others have.
func TestOrderOfFates(t *testing.T) {
	for _, fate := range fates() {
		var want []int
		if fate == history.Acknowledged || fate == history.Found {
			want = []int{0}
		}
		rows := rowsOf(deed{fate, 3, []api.Op{read(0, c), write(1, a)}})
		txs, no := history.Txs(rows)
		must(t, no == api.OK && len(txs) == 1 && txs[0].Fate == fate, "fate %d: %d, %+v", fate, no, txs)
		ordering(t, rows, want, api.OK)
		if want != nil {
			want = []int{1, 0}
		} else {
			want = []int{1}
		}
		ordering(t, rowsOf(deed{fate, 3, nil}, acked(1)), want, api.OK)
	}
	for _, rows := range [][]api.Row{nil, {}, {crash(), scan(7)}, {row(api.RowFlushed, 8, 0)},
		rowsOf(deed{history.Aborted, 0, nil}, deed{history.Dropped, 0, nil}, deed{history.Lost, 4, nil}, deed{history.Pending, 9, nil}, deed{history.Open, 0, nil})} {
		ordering(t, rows, nil, api.OK)
	}
}

// TestOrderOfLives: 24.1, lives and crashes between, a reading that finds one and loses another, a crash without a reading.
func TestOrderOfLives(t *testing.T) {
	two := func(end uint64) []api.Row { // of positions 5 and 2, both committed at a crash
		rows := slices.Concat(deed{history.Pending, 5, nil}.rows(0, 1), deed{history.Pending, 2, nil}.rows(1, 2), []api.Row{crash()})
		if end > 0 {
			rows = append(rows, scan(end))
		}
		return rows
	}
	for _, x := range []struct {
		end  uint64
		want []int
	}{{0, nil}, {1, nil}, {2, nil}, {3, []int{1}}, {5, []int{1}}, {6, []int{1, 0}}, {math.MaxUint64, []int{1, 0}}} {
		ordering(t, two(x.end), x.want, api.OK)
		third := append(two(x.end), deed{history.Acknowledged, 4, nil}.rows(0, 1)...)
		var want []int
		for _, tx := range []int{1, 2, 0} {
			if tx == 2 || slices.Contains(x.want, tx) {
				want = append(want, tx)
			}
		}
		ordering(t, third, want, api.OK)
	}
	ordering(t, append(two(0), crash(), crash(), scan(9), scan(0)), []int{1, 0}, api.OK)
	ordering(t, append(two(0), crash(), scan(0), scan(9)), nil, api.OK)
	later := slices.Concat(acked(9).rows(0, 1), []api.Row{crash(), scan(3)}, acked(7).rows(0, 1), []api.Row{crash(), scan(0)}, acked(8).rows(3, 1))
	ordering(t, later, []int{1, 2, 0}, api.OK)
}

// TestOrderOfPositions: 24.1, positions in any order, near and far apart.
func TestOrderOfPositions(t *testing.T) {
	for _, positions := range [][]uint64{
		{0}, {math.MaxUint64}, {0, 1}, {0, math.MaxUint64}, {0, 1, 2, 3, 4}, {0, 1 << 31, 1 << 32, 1 << 62, 1 << 63},
		{1, 1<<63 - 1, 1 << 63, 1<<63 + 1, math.MaxUint64}, {5, 6, 5 + 1<<32, 6 + 1<<32}, {10, 11, 12, 13, 14, 15},
	} {
		permutations(len(positions), func(rank []int) {
			var deeds []deed
			want := make([]int, len(rank))
			for place, r := range rank {
				fate := []int{history.Acknowledged, history.Found}[place%2]
				if positions[r] == math.MaxUint64 { // no reading finds it
					fate = history.Acknowledged
				}
				deeds = append(deeds, deed{fate, positions[r], nil})
				want[r] = place
			}
			ordering(t, rowsOf(deeds...), want, api.OK)
		})
	}
}

// TestOrderOfDoubles: 24.1, ErrRows just if two of those that count have one position.
func TestOrderOfDoubles(t *testing.T) {
	seen := map[api.Errno]int{}
	n := 0
	var deeds []deed
	var grow func(left int)
	grow = func(left int) {
		if left == 0 {
			n++
			rows := rowsOf(deeds...)
			order, once := ordered(rows)
			want := api.OK
			if !once {
				order, want = nil, api.ErrRows
			}
			ordering(t, rows, order, want)
			seen[want]++
			return
		}
		for _, fate := range fates() {
			for position := range uint64(3) {
				deeds = append(deeds, deed{fate, position, nil})
				grow(left - 1)
				deeds = deeds[:len(deeds)-1]
			}
		}
	}
	for most := range 4 {
		grow(most)
	}
	must(t, seen[api.OK] > 500 && seen[api.ErrRows] > 500, "of %d lists %v", n, seen)
	for _, x := range []struct {
		what      string
		positions []uint64
	}{
		{"at zero", []uint64{0, 0}}, {"at the end", []uint64{math.MaxUint64, math.MaxUint64}}, {"side by side", []uint64{1, 4, 4, 9}},
		{"apart", []uint64{4, 1, 9, 4}}, {"the least", []uint64{1, 4, 1, 9}}, {"the greatest", []uint64{9, 4, 1, 9}}, {"all", []uint64{3, 3, 3}}, {"two of two", []uint64{3, 5, 5, 3}},
	} {
		var deeds []deed
		for _, p := range x.positions {
			deeds = append(deeds, acked(p, write(0, a)))
		}
		ordering(t, rowsOf(deeds...), nil, api.ErrRows)
		for _, d := range deeds { // one that doesn't count doesn't matter
			others := slices.DeleteFunc(slices.Clone(deeds), func(o deed) bool { return o.position == d.position })
			others = append(others, deed{history.Lost, d.position, nil}, deed{history.Pending, d.position, nil}, d, deed{history.Pending, d.position, nil})
			order, once := ordered(rowsOf(others...))
			if once {
				ordering(t, rowsOf(others...), order, api.OK)
			}
		}
	}
}

// TestOneThatCounts: 24.1, one that counts and one that doesn't with one position, of each fate, in both orders.
func TestOneThatCounts(t *testing.T) {
	for _, fate := range []int{history.Open, history.Aborted, history.Dropped, history.Pending, history.Lost} {
		for _, position := range []uint64{0, 3} {
			ordering(t, rowsOf(acked(position), deed{fate, position, nil}), []int{0}, api.OK)
			ordering(t, rowsOf(deed{fate, position, nil}, acked(position)), []int{1}, api.OK)
		}
	}
	// A Found one beside a Lost one of its position: the reading that loses it comes ahead.
	ordering(t, rowsOf(deed{history.Lost, 3, nil}, deed{history.Found, 3, nil}), []int{1}, api.OK)
	ordering(t, rowsOf(deed{history.Found, 3, nil}, deed{history.Lost, 3, nil}), []int{0}, api.OK)
	ordering(t, rowsOf(deed{history.Found, 3, nil}, acked(3)), nil, api.ErrRows)
	ordering(t, rowsOf(acked(3), deed{history.Found, 3, nil}), nil, api.ErrRows)
	ordering(t, rowsOf(deed{history.Found, 3, nil}, deed{history.Found, 3, nil}), nil, api.ErrRows)
}

// TestOrderOfRefusedRows: 24.1, the error of history.Txs, and nothing beside it.
func TestOrderOfRefusedRows(t *testing.T) {
	good := rowsOf(acked(1, write(0, a)), acked(2))
	for i := range len(good) + 1 {
		ordering(t, slices.Insert(slices.Clone(good), i, row(api.RowRead, 5, 1)), nil, api.ErrRows)
	}
	ordering(t, good[1:], nil, api.ErrRows)
	ordering(t, []api.Row{row(api.RowBegun, api.MaxClients, 1)}, nil, api.ErrRows)
}

// TestOrderByChance holds Order, Judge and Map against the model, of rows that hardly a run has.
func TestOrderByChance(t *testing.T) {
	for i, w := range []world{
		{clients: 1, blocks: 1}, {clients: 3, blocks: 2}, {clients: 8, blocks: 3, twice: true}, {clients: 4, blocks: 2, crashes: 15},
		{clients: 8, blocks: 64, crashes: 40}, {clients: 5, blocks: 4, crashes: 25, twice: true},
	} {
		t.Run(fmt.Sprint(i), func(t *testing.T) {
			t.Parallel()
			ch := chance(i*7919 + 3)
			w.values = ch.few
			lengths := map[int]int{}
			for range 300 {
				rows := ch.rows(w, 10+ch.below(150))
				judged(t, rows, w.blocks)
				judged(t, rows, 1+ch.below(api.MaxBlocks))
				order, once := ordered(rows)
				if once {
					lengths[len(order)]++
					judged(t, righted(rows, order), w.blocks)
				} else {
					lengths[-1]++
				}
			}
			must(t, len(lengths) > 5 && (w.twice == (lengths[-1] > 10)), "%v", lengths)
		})
	}
}
