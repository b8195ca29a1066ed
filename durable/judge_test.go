package durable_test

import (
	"fmt"
	"math"
	"slices"
	"testing"

	"wicket/api"
	"wicket/durable"
	"wicket/history"
)

// TestJudgeExamples: the chapter's.
func TestJudgeExamples(t *testing.T) {
	first := chapters(t, "0000011111")
	for p, want := range map[uint64]durable.Finding{0: gone(11, 0), 1: gone(11, 0), 2: none(), 3: none()} {
		rows := append(slices.Clone(first), api.Row{Kind: api.RowCrashed}, api.Row{Kind: api.RowScanned, Position: p})
		judging(t, two, rows, want)
		held(t, two, rows)
	}
	opens := []api.Row{{Kind: api.RowBegun, Ticket: 1, Set: []int{0}}, {Kind: api.RowEntered, Ticket: 1}, {Kind: api.RowLocked, Ticket: 1}}
	nine := filled(9)
	judging(t, two, append(slices.Clone(opens), api.Row{Kind: api.RowRead, Ticket: 1, Value: nine}), stale(3, 0, 0))
	judging(t, two, append(slices.Clone(opens), api.Row{Kind: api.RowWritten, Ticket: 1, Value: nine}, api.Row{Kind: api.RowRead, Ticket: 1, Value: nine}), none())
}

// TestHomesExamples: the chapter's, and each block that may differ first.
func TestHomesExamples(t *testing.T) {
	first := chapters(t, "0000011111")
	homely(t, two, first, []api.Value{zero, zero}, 1)
	homely(t, two, first, []api.Value{zero, filled(7)}, -1)
	n, no := durable.Homes(two, first, []api.Value{zero})
	must(t, n == 0 && no == api.ErrInput, "Homes of one value answers %d, %d", n, no)
}

// TestHomesAtAllBlocks: 25.4, homes that hold all, that differ at one block or at several: the least is told; by one byte too.
func TestHomesAtAllBlocks(t *testing.T) {
	t.Parallel()
	for blocks := 1; blocks <= api.MaxBlocks; blocks++ {
		of := config(blocks, 4, 1, 4, 8)
		var ops []api.Op
		var store []api.Value
		for block := range blocks {
			ops, store = append(ops, write(block, numbered(block+1))), append(store, numbered(block+1))
		}
		rows := rowsOf(found(4, ops...), deed{history.Open, 0, []api.Op{write(0, c)}})
		homely(t, of, rows, store, -1)
		homely(t, of, nil, zeros(of), -1)
		for block := range blocks {
			for _, i := range []int{0, 7, 31} {
				homes := slices.Clone(store)
				homes[block][i] ^= 0x80
				homely(t, of, rows, homes, block)
				homes[blocks-1] = c
				homely(t, of, rows, homes, block)
			}
			homes := slices.Clone(store)
			for k := block; k < blocks; k++ {
				homes[k] = zero
			}
			homely(t, of, rows, homes, block)
		}
	}
}

// TestOrder: 25.3, a commit's RowAppended above, at and below those ahead, whatever has become of these.
func TestOrder(t *testing.T) {
	for _, fate := range fates() {
		for _, first := range []uint64{0, 1, 5, 1 << 40, api.MaxPos, math.MaxUint64 - 1} {
			ahead := deed{fate, first, nil}.rows(0, 1)
			written := fate >= history.Pending
			for _, second := range []uint64{0, 1, 2, 4, 5, 6, first - 1, first, first + 1, math.MaxUint64} {
				rows := append(slices.Clone(ahead), begun(1, 2)...)
				rows = append(rows, asks(1, 2), commits(2, second))
				want := none()
				if written && second <= first {
					want = order(len(rows)-1, 1)
				}
				judging(t, eight, rows, want)
				held(t, eight, rows)
				// What comes behind it changes nothing.
				held(t, eight, append(rows, crash()))
			}
		}
	}
}

// TestOrderOfAllAhead: 25.3, it is held against each one ahead, not the last one alone; the first that isn't above is told.
func TestOrderOfAllAhead(t *testing.T) {
	permutations(5, func(places []int) {
		var deeds []deed
		for i, n := range places {
			deeds = append(deeds, deed{[]int{history.Acknowledged, history.Pending, history.Acknowledged, history.Lost, history.Acknowledged}[i], uint64(3 * n), nil})
		}
		// The lost one's reading would find the others gone, so it is of no life of theirs: its position tells the end.
		rows := slices.DeleteFunc(rowsOf(deeds...), func(r api.Row) bool { return r.Kind == api.RowScanned })
		want, high := none(), -1
		for i, r := range rows {
			if r.Kind == api.RowAppended {
				if int(r.Position) <= high {
					want = order(i, slices.IndexFunc(txsOf(rows), func(x history.Tx) bool { return x.Commit == i }))
					break
				}
				high = int(r.Position)
			}
		}
		judging(t, eight, rows, want)
		held(t, eight, rows)
	})
}

// TestOrderOfImages: 25.3, of an image's RowAppended nothing is asked, and none is held against it; Block -1 alone is a commit's.
func TestOrderOfImages(t *testing.T) {
	for _, block := range []int{math.MinInt, -2, 0, 1, 63, 64, math.MaxInt} {
		for _, first := range []uint64{0, 4, 5, 6, 99} {
			for _, second := range []uint64{0, 4, 5, 6, 99} {
				image := on(at(row(api.RowAppended, 8, 2), second), block, a)
				rows := slices.Concat(acked(5).rows(0, 1), begun(1, 2), []api.Row{asks(1, 2), on(at(image, first), block, a), image, commits(2, 6), done(2, 6)})
				judging(t, eight, rows, none())
				held(t, eight, rows)
			}
		}
	}
}

// TestOrderOfClients: 25.3, Tx is the commit's own, of whatever client it is, though others have begun between and asked.
func TestOrderOfClients(t *testing.T) {
	permutations(4, func(turn []int) {
		var rows []api.Row
		for n := range 4 {
			rows = append(rows, begun(n, uint64(n+1))...)
		}
		for n := range 4 {
			rows = append(rows, asks(n, uint64(n+1)))
		}
		for i, n := range turn {
			rows = append(rows, commits(uint64(n+1), []uint64{1, 2, 3, 3}[i]))
		}
		judging(t, wide, rows, order(len(rows)-1, turn[3]))
	})
	// Of two lives whose tickets are alike.
	rows := slices.Concat(acked(4).rows(2, 1), []api.Row{crash(), scan(5)}, begun(3, 1), []api.Row{asks(3, 1), commits(1, 4)})
	judging(t, wide, rows, order(len(rows)-1, 1))
}

// TestGone: 25.3, a RowScanned whose Position is below, just and above an acknowledged one's, with a crash ahead or none, whoever's it is.
func TestGone(t *testing.T) {
	for _, p := range []uint64{0, 1, 5, api.MaxPos, math.MaxUint64} {
		ahead := acked(p, write(0, a)).rows(0, 1)
		for _, end := range []uint64{0, p / 2, p - 1, p, p + 1, p + 2, math.MaxUint64} {
			for _, crashes := range []int{0, 1, 2} {
				for _, actor := range []int{-1, 0, 3, 10} {
					reading := scan(end)
					reading.Actor = actor
					rows := append(append(slices.Clone(ahead), slices.Repeat([]api.Row{crash()}, crashes)...), reading)
					want := none()
					if p >= end {
						want = gone(len(rows)-1, 0)
					}
					judging(t, eight, rows, want)
					held(t, eight, rows)
				}
			}
		}
	}
}

// TestGoneOfEachFate: 25.3, those alone whose RowDone stands ahead are gone.
func TestGoneOfEachFate(t *testing.T) {
	for _, fate := range fates() {
		for _, end := range []uint64{0, 4, 5, 6, 7} {
			rows := append(deed{fate, 5, nil}.rows(0, 1), crash(), scan(end))
			want := none()
			if fate == history.Acknowledged && end <= 5 {
				want = gone(len(rows)-1, 0)
			}
			judging(t, eight, rows, want)
			held(t, eight, rows)
		}
	}
	// One that is acknowledged behind the reading alone.
	asked := append(begun(0, 1), asks(0, 1), commits(1, 5))
	rows := append(slices.Clone(asked), scan(0), done(1, 5))
	judging(t, eight, rows, none())
	judging(t, eight, append(rows, scan(6)), none())
	judging(t, eight, append(rows, scan(5)), gone(len(rows), 0))
	judging(t, eight, append(rows, crash(), scan(6), scan(5), scan(0)), gone(len(rows)+2, 0))
	// Behind another one that is.
	rows = slices.Concat(acked(3).rows(1, 7), asked, []api.Row{scan(4), done(1, 5), scan(5)})
	judging(t, eight, rows, gone(len(rows)-1, 1))
}

// TestGoneFirst: 25.3, of several that are gone the first one in history.Txs is told, whatever the order of their positions and their RowDone.
func TestGoneFirst(t *testing.T) {
	permutations(3, func(turn []int) {
		permutations(3, func(ends []int) {
			var rows []api.Row
			for n := range 3 {
				rows = append(rows, begun(turn[n], uint64(n+1))...)
				rows = append(rows, asks(turn[n], uint64(n+1)))
			}
			for n := range 3 {
				rows = append(rows, commits(uint64(n+1), uint64(2*n+1)))
			}
			for until := range 4 {
				list := slices.Clone(rows)
				for _, n := range ends[:until] {
					list = append(list, done(uint64(n+1), uint64(2*n+1)))
				}
				for end := range uint64(8) {
					want := none()
					for n := range 3 {
						if want.Good && slices.Contains(ends[:until], n) && uint64(2*n+1) >= end {
							want = gone(len(list)+1, n)
						}
					}
					judging(t, wide, append(slices.Clone(list), crash(), scan(end)), want)
				}
			}
		})
	})
	// Positions that fall would be found as Order, so they rise; but their transactions have begun in another order.
	rows := slices.Concat(begun(0, 1), begun(1, 2), []api.Row{asks(1, 2), commits(2, 4), asks(0, 1), commits(1, 6), done(2, 4), done(1, 6), crash()})
	for end, want := range map[uint64]durable.Finding{7: none(), 6: gone(9, 0), 5: gone(9, 0), 4: gone(9, 0)} {
		judging(t, wide, append(slices.Clone(rows), scan(end)), want)
	}
	rows = slices.Concat(begun(0, 1), begun(1, 2), []api.Row{asks(0, 1), commits(1, 4), asks(1, 2), commits(2, 6), done(2, 6), done(1, 4), crash()})
	for end, want := range map[uint64]durable.Finding{7: none(), 6: gone(9, 1), 5: gone(9, 1), 4: gone(9, 0)} {
		judging(t, wide, append(slices.Clone(rows), scan(end)), want)
	}
}

// reading tells rows of which the last one reads a block.
func reading(client int, ticket uint64, block int, v api.Value) api.Row {
	return on(row(api.RowRead, client, ticket), block, v)
}

// TestReads: 25.3, what each RowRead should tell, and that any other value is found there.
func TestReads(t *testing.T) {
	own := func(ops ...api.Op) []api.Row { return begun(0, 9, ops...) }
	waits := func(op api.Op) []api.Row { return append(begun(1, 5, op), asks(1, 5)) }
	for _, x := range []struct {
		what string
		rows []api.Row
		want api.Value
	}{
		{"ahead of any write", own(), zero},
		{"behind a write of its own", own(write(0, a)), a},
		{"behind two of its own", own(write(0, a), write(0, b)), b},
		{"behind two of its own, the same again", own(write(0, a), write(0, b), write(0, a)), a},
		{"behind zeros of its own", append(rowsOf(acked(1, write(0, c))), own(write(0, zero))...), zero},
		{"of another block than the one written", own(write(1, a)), zero},
		{"between writes of other blocks", append(rowsOf(acked(1, write(0, c), write(1, b))), own(write(1, a), write(63, a))...), c},
		{"behind a read", own(read(0, zero)), zero},
		{"behind one that is done", append(rowsOf(acked(1, write(0, a))), own()...), a},
		{"behind one that is done, with a write of its own", append(rowsOf(acked(1, write(0, a))), own(write(0, b))...), b},
		{"behind two that are done", append(rowsOf(acked(1, write(0, a)), acked(2, write(0, b))), own()...), b},
		{"behind two that are done, of which the second wrote something else", append(rowsOf(acked(1, write(0, a)), acked(2, write(1, b))), own()...), a},
		{"behind one that is found", append(rowsOf(found(1, write(0, a))), own()...), a},
		{"behind one that was lost", append(rowsOf(acked(1, write(0, a)), lost(2, write(0, b))), own()...), a},
		{"behind one that was aborted", append(rowsOf(acked(1, write(0, a)), deed{history.Aborted, 0, []api.Op{write(0, b)}}), own()...), a},
		{"behind one that was dropped", append(rowsOf(deed{history.Dropped, 0, []api.Op{write(0, b)}}), own()...), zero},
		{"behind another client's write that has not asked", append(begun(1, 5, write(0, a)), own()...), zero},
		{"behind another client's write that has asked", append(waits(write(0, a)), own()...), zero},
		{"behind another client's write that is committed", slices.Concat(waits(write(0, a)), []api.Row{commits(5, 1)}, own()), zero},
		{"behind another client's write that is done", slices.Concat(waits(write(0, a)), []api.Row{commits(5, 1), done(5, 1)}, own()), a},
		{"behind another client's write that is done since it has begun", slices.Concat(waits(write(0, a)), own(), []api.Row{commits(5, 1), done(5, 1)}), a},
		{"behind a crash that made one pending", slices.Concat(waits(write(0, a)), []api.Row{commits(5, 1), crash()}, own()), zero},
		{"ahead of a reading of its life's", slices.Concat(waits(write(0, a)), []api.Row{commits(5, 1), scan(9)}, own()), zero},
		{"behind a reading that makes one stand", slices.Concat(waits(write(0, a)), []api.Row{commits(5, 1), crash(), scan(2)}, own()), a},
		{"behind one since it has begun", slices.Concat(waits(write(0, a)), []api.Row{commits(5, 1), crash()}, own(), []api.Row{scan(2)}), a},
		{"behind a reading that finds it lost", slices.Concat(waits(write(0, a)), []api.Row{commits(5, 1), crash(), scan(1)}, own()), zero},
		{"behind a second reading, as it was lost", slices.Concat(waits(write(0, a)), []api.Row{commits(5, 1), crash(), scan(1), scan(9)}, own()), zero},
		{"behind its client's last transaction, which wrote", append(deed{history.Aborted, 0, []api.Op{write(0, a)}}.rows(0, 1), own()...), zero},
		{"behind its client's last transaction, which is done", append(acked(3, write(0, a)).rows(0, 1), own(write(1, c))...), a},
		{"behind a crash in which its client had written", slices.Concat(begun(0, 1, write(0, a)), []api.Row{crash()}, own()), zero},
		{"beside another one's own write of it", slices.Concat(own(write(0, a)), begun(1, 5, write(0, b))), a},
		{"behind the write of an image, and of homes", append(own(), on(row(api.RowAppended, 8, 9), 5, a)), zero},
	} {
		t.Run(x.what, func(t *testing.T) {
			rows := slices.Clone(x.rows)
			if last := rows[len(rows)-1]; last.Kind == api.RowAppended { // a row that a run might have: homes are written
				rows[len(rows)-1] = carried(9, 0, a)
			}
			tx := slices.IndexFunc(txsOf(rows), func(x history.Tx) bool { return x.Ticket == 9 })
			judging(t, wide, append(slices.Clone(rows), reading(0, 9, 0, x.want)), none())
			held(t, wide, append(slices.Clone(rows), reading(0, 9, 0, x.want)))
			for _, v := range append(others(x.want), a, b, c) {
				if v == x.want {
					continue
				}
				spoilt := append(slices.Clone(rows), reading(0, 9, 0, v))
				judging(t, wide, spoilt, stale(len(rows), tx, 0))
				judging(t, wide, append(spoilt, row(api.RowAborted, 0, 9)), stale(len(rows), tx, 0))
			}
		})
	}
}

// TestReadsOfAllFates: 25.3, a RowRead is asked whatever becomes of its transaction, and whatever stands behind.
func TestReadsOfAllFates(t *testing.T) {
	for _, fate := range fates() {
		for block := range 64 {
			rows := append(rowsOf(acked(1, write(block, a))), deed{fate, 5, []api.Op{read(block, a), read(63-block, zero), write(63-block, b), read(63-block, b)}}.rows(3, 9)...)
			judging(t, wide, rows, none())
			for i, r := range rows {
				if r.Kind == api.RowRead {
					spoilt := slices.Clone(rows)
					spoilt[i].Value = c
					judging(t, wide, spoilt, stale(i, 1, r.Block))
				}
			}
		}
	}
}

// TestReadsOfAllClients: 25.3, Tx is that of the read's own client, of the transaction that it has begun last.
func TestReadsOfAllClients(t *testing.T) {
	for spoilt := range api.MaxClients {
		var rows []api.Row
		for n := range api.MaxClients {
			rows = append(rows, begun(n, uint64(n+1), write(n, numbered(n+1)))...)
		}
		for n := range api.MaxClients {
			if n%2 == 0 { // these begin again
				rows = append(rows, row(api.RowAborted, n, uint64(n+1)))
				rows = append(rows, begun(n, uint64(n+20), write(n, numbered(n+30)))...)
			}
		}
		want := none()
		for n := api.MaxClients - 1; n >= 0; n-- {
			r := reading(n, uint64(n+1), n, numbered(n+1))
			if n%2 == 0 {
				r = reading(n, uint64(n+20), n, numbered(n+30))
			}
			if n == spoilt {
				r.Value = numbered(99)
				want = stale(len(rows), n, n)
				if n%2 == 0 {
					want.Tx = api.MaxClients + n/2
				}
			}
			rows = append(rows, r)
		}
		judging(t, wide, rows, want)
	}
}

// TestPositionsOfReads: 25.3, a read behind commits whose RowDone come in another order than their positions tells the greatest position's.
func TestPositionsOfReads(t *testing.T) {
	permutations(4, func(turn []int) {
		var rows []api.Row
		for n := range 4 {
			rows = append(rows, begun(n, uint64(n+1), write(0, numbered(n+1)), write(n+1, c))...)
			rows = append(rows, asks(n, uint64(n+1)))
		}
		for n := range 4 {
			rows = append(rows, commits(uint64(n+1), uint64(n)))
		}
		rows = append(rows, begun(7, 9)...)
		high := -1
		for _, n := range turn {
			want := numbered(high + 1)
			rows = append(rows, reading(7, 9, 0, want), reading(7, 9, n+1, zero), done(uint64(n+1), uint64(n)), reading(7, 9, n+1, c), carried(10, n+1, c))
			high = max(high, n)
			rows = append(rows, reading(7, 9, 0, numbered(high+1)), carried(10, 0, numbered(high+1)))
		}
		judging(t, wide, rows, none())
		held(t, wide, rows)
		for i, r := range rows {
			if r.Kind == api.RowRead || r.Kind == api.RowCarried {
				spoilt := slices.Clone(rows)
				spoilt[i].Value = numbered(77)
				tx := 4
				if r.Kind == api.RowCarried {
					tx = -1
				}
				judging(t, wide, spoilt, stale(i, tx, r.Block))
			}
		}
		store, no := durable.Store(wide, rows)
		must(t, no == api.OK && store[0] == numbered(4), "Store answers %v, %d", store, no)
	})
}

// TestCarried: 25.3, a RowCarried of a recovery's Actor is held against the store of the rows ahead; that of any other Actor is not.
func TestCarried(t *testing.T) {
	for _, of := range []api.Config{two, config(2, 4, 2, 4, 2), config(3, 4, 2, 4, 7), wide} {
		left := append(begun(0, 1, write(1, a)), asks(0, 1), commits(1, 3))
		for _, x := range []struct {
			what string
			rows []api.Row
			want api.Value
		}{
			{"of nothing", nil, zero},
			{"ahead of its RowDone", left, zero},
			{"behind its RowDone", append(slices.Clone(left), done(1, 3)), a},
			{"behind a crash, ahead of the reading", append(slices.Clone(left), crash()), zero},
			{"behind the reading that finds it", append(slices.Clone(left), crash(), scan(4)), a},
			{"behind the reading that does not", append(slices.Clone(left), crash(), scan(3)), zero},
			{"behind a second crash", append(slices.Clone(left), crash(), scan(4), crash()), a},
			{"behind another home", append(slices.Clone(left), crash(), scan(4), carried(healer(of), 0, zero)), a},
			{"of a write that is not done", begun(0, 1, write(1, a)), zero},
		} {
			for actor := -2; actor < 14; actor++ {
				for _, v := range append(others(x.want), a, x.want) {
					rows := append(slices.Clone(x.rows), carried(actor, 1, v))
					want := none()
					if actor == healer(of) && v != x.want {
						want = stale(len(rows)-1, -1, 1)
					}
					judging(t, of, rows, want)
					judging(t, of, append(rows, row(api.RowLives, actor, 0)), want)
				}
			}
			held(t, of, append(slices.Clone(x.rows), carried(healer(of), 1, x.want), carried(healer(of), 0, a)))
			for block := range of.Blocks {
				if block != 1 {
					judging(t, of, append(slices.Clone(x.rows), carried(healer(of), block, zero)), none())
					judging(t, of, append(slices.Clone(x.rows), carried(healer(of), block, b)), stale(len(x.rows), -1, block))
				}
			}
		}
	}
}

// TestFirstFinding: 25.3, of several the first one's row ends it, whatever they are.
func TestFirstFinding(t *testing.T) {
	type fault struct {
		rows []api.Row
		find func(row, tx int) durable.Finding
		at   int // of these rows
	}
	// Each is one more transaction, of the position 10 or more that comes next.
	faults := []fault{
		{slices.Concat(begun(0, 51), []api.Row{asks(0, 51), commits(51, 2)}), order, 2},
		{append(begun(1, 52), scan(3), row(api.RowAborted, 1, 52)), func(row, tx int) durable.Finding { return gone(row, 0) }, 1},
		{begun(2, 53, read(0, c)), func(row, tx int) durable.Finding { return stale(row, tx, 0) }, 1},
		{append(begun(3, 54, write(5, a), read(5, b)), asks(3, 54)), func(row, tx int) durable.Finding { return stale(row, tx, 5) }, 2},
		{append(begun(4, 55), carried(10, 1, c)), func(row, tx int) durable.Finding { return stale(row, -1, 1) }, 1},
	}
	good := acked(9, write(0, a)).rows(6, 1)
	permutations(len(faults), func(turn []int) {
		for n := 1; n <= len(turn); n++ {
			rows, want := slices.Clone(good), none()
			for i, k := range turn[:n] {
				if want.Good {
					want = faults[k].find(len(rows)+faults[k].at, 1+i)
				}
				rows = append(rows, faults[k].rows...)
			}
			judging(t, wide, rows, want)
		}
	})
	for _, f := range faults {
		rows := append(slices.Clone(good), f.rows...)
		held(t, wide, rows)
		judging(t, wide, rows[:len(good)+f.at], none())
	}
}

// TestNothingAskedOfOthers: 25.3, of no other Kind anything is asked, whatever stands in its row.
func TestNothingAskedOfOthers(t *testing.T) {
	rows := rowsOf(acked(4, write(0, a)), acked(6, read(0, a), write(1, b)))
	for kind := -2; kind < 30; kind++ {
		switch kind {
		case api.RowBegun, api.RowEntered, api.RowLocked, api.RowRead, api.RowWritten, api.RowRefused, api.RowRequested, api.RowAborted, api.RowRejected, api.RowAppended, api.RowDone, api.RowCrashed, api.RowScanned:
			continue
		}
		for i := range len(rows) + 1 {
			for _, actor := range []int{-1, 0, 1, 8, 9, 10} {
				for _, position := range []uint64{0, 3, 5, 99} {
					if kind == api.RowCarried && actor == healer(wide) {
						continue
					}
					strange := on(at(row(kind, actor, 1), position), i%2, c)
					judging(t, wide, slices.Insert(slices.Clone(rows), i, strange), none())
				}
			}
		}
	}
	own := []api.Row{row(api.RowEntered, 0, 1), on(row(api.RowLocked, 0, 1), 0, c), on(row(api.RowRefused, 0, 1), 0, c)}
	for _, r := range own {
		judging(t, wide, slices.Insert(slices.Clone(rows), 1, at(r, 99)), none())
	}
	judging(t, wide, append(slices.Clone(rows), row(api.RowRejected, 0, 7), on(row(api.RowRefused, 0, 0), 0, c)), none())
}

// TestStoreAhead: 25.3, it is the store of the rows ahead, which is another one than that of all.
func TestStoreAhead(t *testing.T) {
	rows := rowsOf(acked(1, write(0, a)), acked(2, read(0, a), write(0, b)), acked(3, read(0, b), write(0, c)), acked(4, read(0, c)))
	judging(t, wide, rows, none())
	held(t, wide, rows)
	for cut := range len(rows) + 1 {
		held(t, two, rows[:cut])
	}
	for i, r := range rows {
		if r.Kind == api.RowRead {
			for _, v := range []api.Value{zero, a, b, c} {
				spoilt := slices.Clone(rows)
				spoilt[i].Value = v
				held(t, two, spoilt)
				if v != r.Value {
					f, _ := durable.Judge(wide, spoilt)
					must(t, f.What == durable.Stale && f.Row == i, "%+v", f)
				}
			}
		}
	}
}

// TestJudgeByChance: against the model, of rows that are right, wrong anywhere, or wrong in a few places.
func TestJudgeByChance(t *testing.T) {
	t.Parallel()
	ch := chance(41)
	seen := map[string]int{}
	for n := range 1500 {
		w := world{of: []api.Config{config(1, 2, 1, 1, 2), config(2, 4, 1, 2, 3), config(5, 4, 1, 2, 5), config(16, 64, 1, 1, 8)}[n%4], crashes: []int{0, 15, 50}[n/4%3], values: ch.few, rising: n%7 > 0}
		rows := ch.rows(w, ch.below(110))
		if n%5 > 0 {
			rows = righted(w.of, rows)
		}
		for range ch.below(4) {
			rows = spoiltAnywhere(&ch, rows)
		}
		f := held(t, w.of, rows)
		seen[fmt.Sprint(f.Good, f.What, f.Row > 50, f.Tx > 2, f.Tx >= 0)]++
	}
	t.Logf("%v", seen)
	count := func(what int, far bool) (n int) {
		for key, k := range seen {
			for _, tx := range []bool{true, false} {
				if key == fmt.Sprint(what == 0, what, far, far, tx) {
					n += k
				}
			}
		}
		return n
	}
	for what := range durable.Stale + 1 {
		must(t, count(what, what > 0) > 10, "%d came %d times: %v", what, count(what, what > 0), seen)
	}
}

// spoiltAnywhere tells rows in which one value, or one position, is another one.
func spoiltAnywhere(ch *chance, rows []api.Row) []api.Row {
	spoilt := slices.Clone(rows)
	for range 30 {
		if len(rows) == 0 {
			break
		}
		i := ch.below(len(rows))
		switch r := &spoilt[i]; r.Kind {
		case api.RowRead, api.RowCarried, api.RowWritten:
			r.Value = ch.few()
			return spoilt
		case api.RowScanned:
			r.Position = uint64(ch.below(int(r.Position) + 3))
			return spoilt
		case api.RowAppended:
			if r.Block == -1 {
				old := r.Position
				r.Position = uint64(ch.below(int(old) + 9))
				for k := i; k < len(spoilt); k++ {
					if o := &spoilt[k]; o.Kind == api.RowDone && o.Ticket == r.Ticket && o.Position == old {
						o.Position = r.Position
						break
					}
				}
				return spoilt
			}
		}
	}
	return spoilt
}

// TestAllShortRows: against the model, of all short lists of some rows.
func TestAllShortRows(t *testing.T) {
	t.Parallel()
	begins := begun(0, 1)[0]
	kinds := []api.Row{
		begins, on(row(api.RowWritten, 0, 1), 0, a), reading(0, 1, 0, a), reading(0, 1, 0, zero), asks(0, 1), commits(1, 3), commits(1, 4), done(1, 3),
		crash(), scan(3), scan(4), carried(3, 0, a), carried(3, 0, zero),
	}
	of := config(1, 4, 1, 4, 1)
	seen := map[string]int{}
	var grow func(rows []api.Row, left int)
	grow = func(rows []api.Row, left int) {
		if _, no := history.Txs(rows); no != api.OK {
			return
		}
		f := findingOf(of, rows)
		if mayNot(of, rows) == api.OK {
			judging(t, of, rows, f)
			store, _ := durable.Store(of, rows)
			must(t, slices.Equal(store, storeOf(of, rows)), "Store answers %v, of %+v", store, rows)
		} else {
			refused(t, of, rows, zeros(of), api.ErrRows, api.ErrRows)
		}
		seen[fmt.Sprint(f.What)]++
		if left > 0 && f.Good {
			for _, r := range kinds {
				grow(append(rows[:len(rows):len(rows)], r), left-1)
			}
		}
	}
	grow(nil, 6)
	grow(append(begun(0, 1, write(0, a)), asks(0, 1)), 6)
	grow(append(begun(0, 1, write(0, a)), asks(0, 1), commits(1, 3), done(1, 3), begins), 5)
	grow(append(begun(0, 1, write(0, a)), asks(0, 1), commits(1, 3), crash()), 6)
	grow(append(begun(0, 1, write(0, a)), asks(0, 1), commits(1, 3), crash(), begins, asks(0, 1)), 5)
	t.Logf("%v", seen)
	must(t, len(seen) == 4, "%v", seen)
}

// TestAnyRows: R1, of rows with anything in them.
func TestAnyRows(t *testing.T) {
	t.Parallel()
	ch := chance(47)
	ints := []int{math.MinInt, -2, -1, 0, 0, 0, 1, 1, 2, 3, 7, 8, 9, 10, 63, 64, math.MaxInt}
	longs := []uint64{0, 0, 1, 1, 2, 3, 1 << 62, math.MaxUint64}
	seen := map[api.Errno]int{}
	for range 30000 {
		of := []api.Config{two, eight, wide}[ch.below(3)]
		rows := slices.Clone([][]api.Row{nil, begun(0, 1, write(0, a)), append(begun(1, 1), asks(1, 1), commits(1, 3))}[ch.below(3)])
		for range ch.below(4) {
			rows = append(rows, api.Row{
				Kind: ch.below(24) - 1, Life: longs[ch.below(len(longs))], Actor: ints[ch.below(len(ints))], Ticket: longs[ch.below(len(longs))],
				Block: ints[ch.below(len(ints))], Value: ch.few(), Position: longs[ch.below(len(longs))], Count: ints[ch.below(len(ints))],
				Err: api.Errno(ints[ch.below(len(ints))]), Set: ch.some(3),
			})
		}
		no := mayNot(of, rows)
		seen[no]++
		if no != api.OK {
			refused(t, of, rows, zeros(of), no, no)
			continue
		}
		stored(t, of, rows, mapsOf(of, rows)...)
		judging(t, of, rows, findingOf(of, rows))
	}
	must(t, seen[api.OK] > 3000 && seen[api.ErrRows] > 3000, "%v", seen)
}

// TestJudgeOfLongRows: rows that no run is long enough for are told soon.
func TestJudgeOfLongRows(t *testing.T) {
	t.Parallel()
	const n = 60000
	of := config(3, 8, 3, 8, 8)
	var rows []api.Row
	store := zeros(of)
	for i := range n {
		rows = append(rows, acked(uint64(i), read(i%3, store[i%3]), write(i%3, numbered(i+1)), read(i%3, numbered(i+1))).rows(i%8, uint64(i+1))...)
		store[i%3] = numbered(i + 1)
		if i%2 == 0 {
			rows = append(rows, crash(), scan(uint64(i+1)), carried(10, i%3, store[i%3]))
		}
	}
	judging(t, of, rows, none())
	judging(t, of, append(slices.Clone(rows), scan(n-1)), gone(len(rows), n-1))
	judging(t, of, append(slices.Clone(rows), scan(0)), gone(len(rows), 0))
	judging(t, of, append(slices.Clone(rows), carried(10, 2, zero)), stale(len(rows), -1, 2))
	// One transaction that is very long, and many that are pending.
	var ops []api.Op
	for i := range n {
		ops = append(ops, write(i%3, numbered(i)), read(i%3, numbered(i)))
	}
	judging(t, of, rowsOf(acked(1, ops...)), none())
	rows = nil
	for i := range n {
		rows = append(rows, append(begun(0, 1, write(0, numbered(i))), asks(0, 1), commits(1, uint64(i)), crash())...)
	}
	judging(t, of, append(rows, scan(n/2), carried(10, 0, numbered(n/2-1))), none())
}
