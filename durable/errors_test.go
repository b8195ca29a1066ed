package durable_test

import (
	"fmt"
	"math"
	"slices"
	"testing"

	"wicket/api"
	"wicket/durable"
	"wicket/history"
)

// badConfigs tells configurations that may not be, each of one number that is just too small or too great, or far from what may be.
func badConfigs() []api.Config {
	l := []api.Config{{}}
	for _, blocks := range []int{math.MinInt, -1, 0, api.MaxBlocks + 1, math.MaxInt} {
		l = append(l, config(blocks, 4, 1, 4, 1))
	}
	for _, logCap := range []int{math.MinInt, -1, 0, 1, api.MaxLog + 1, math.MaxInt} {
		l = append(l, config(2, logCap, 1, 1, 1))
	}
	for _, maxRes := range []int{math.MinInt, -1, 0, 3, math.MaxInt} {
		l = append(l, config(2, 4, maxRes, 4, 1))
	}
	l = append(l, config(64, 64, api.MaxRes+1, 4, 1), config(16, 4, 4, 4, 1))
	for _, high := range []int{math.MinInt, -1, 0, 5, math.MaxInt} {
		l = append(l, config(2, 4, 2, high, 1))
	}
	for _, clients := range []int{math.MinInt, -1, 0, api.MaxClients + 1, math.MaxInt} {
		l = append(l, config(2, 4, 2, 4, clients))
	}
	return l
}

// strange tells rows of each kind that may not be, for stores of up to 64 blocks, and some that may be.
func strange() map[string][]api.Row {
	return map[string][]api.Row{
		"none":           nil,
		"of a run":       rowsOf(acked(1, write(0, a)), acked(2, read(0, a))),
		"no run's":       rowsOf(acked(1, write(0, a)))[1:],
		"one position":   rowsOf(acked(1), acked(1)),
		"no block":       rowsOf(acked(1, read(-1, a))),
		"too great":      rowsOf(acked(1, write(64, a))),
		"carried":        {carried(3, 64, a)},
		"all":            append(append(rowsOf(acked(1, write(64, a)), acked(1)), carried(3, -1, a)), row(api.RowRead, 7, 9)),
		"something else": rowsOf(acked(2, write(0, a)), acked(1, read(0, b))),
	}
}

// TestConfigsThatMayNotBe: 25.1, ErrConfig comes ahead of all else, of each of the four.
func TestConfigsThatMayNotBe(t *testing.T) {
	for _, of := range badConfigs() {
		for _, rows := range strange() {
			for _, homes := range [][]api.Value{nil, {}, {zero}, {zero, zero}, make([]api.Value, 64), make([]api.Value, 65)} {
				refused(t, of, rows, homes, api.ErrConfig, api.ErrConfig)
			}
		}
	}
}

// TestConfigsThatMayBe: 25.1, at the edges of each number.
func TestConfigsThatMayBe(t *testing.T) {
	for _, of := range append(configs(), config(1, 2, 1, 1, 8), config(64, 64, 16, 64, 1), config(16, 17, 16, 1, 8), config(2, 3, 2, 3, 8)) {
		held(t, of, nil)
		held(t, of, rowsOf(acked(1, write(0, a), write(of.Blocks-1, b))))
	}
}

// TestRowsThatHistoryRefuses: 25.1, ErrRows, wherever the row stands that may not be.
func TestRowsThatHistoryRefuses(t *testing.T) {
	good := rowsOf(acked(1, write(0, a)), deed{fate: history.Open})
	for _, bad := range []api.Row{
		row(api.RowRead, 0, 1), row(api.RowBegun, 1, 3), row(api.RowBegun, -1, 3), row(api.RowBegun, api.MaxClients, 3),
		row(api.RowEntered, 1, 9), row(api.RowAborted, 7, 1), done(2, 1), commits(2, 5), row(api.RowRejected, 1, 0), row(api.RowRefused, 1, 0),
	} {
		bad.Block = max(bad.Block, 0)
		if bad.Kind == api.RowAppended {
			bad.Block = -1
		}
		rows := append(slices.Clone(good), bad)
		refused(t, two, rows, make([]api.Value, 2), api.ErrRows, api.ErrRows)
		refused(t, two, append(rows, crash(), scan(0)), make([]api.Value, 2), api.ErrRows, api.ErrRows)
		refused(t, wide, rows, make([]api.Value, 64), api.ErrRows, api.ErrRows)
	}
}

// edgesOf tells numbers at and beyond the edges of a store's blocks.
func edgesOf(blocks int) []int {
	return []int{math.MinInt, -blocks, -1, 0, blocks - 1, blocks, blocks + 1, 2 * blocks, 64, 65, 128, 256, 1 << 32, math.MaxInt}
}

// TestBlocks: 25.1, a block that is none, of a RowRead, a RowWritten and a RowCarried, whoever's, whatever becomes of the transaction.
func TestBlocks(t *testing.T) {
	seen := map[bool]int{}
	for _, blocks := range []int{1, 2, 33, 63, 64} {
		of := config(blocks, 4, 1, 4, 2)
		for _, block := range edgesOf(blocks) {
			may := block >= 0 && block < blocks
			var lists [][]api.Row
			for _, op := range []api.Op{read(block, zero), write(block, a)} {
				for _, fate := range fates() {
					lists = append(lists, rowsOf(acked(7, write(0, b)), deed{fate, 9, []api.Op{op}}, acked(12)))
				}
			}
			for actor := -1; actor < 12; actor++ {
				lists = append(lists, []api.Row{carried(actor, block, zero)}, slices.Concat(rowsOf(acked(7)), []api.Row{carried(actor, block, a), crash()}))
			}
			for _, rows := range lists {
				seen[may]++
				if may {
					held(t, of, rows)
				} else {
					refused(t, of, rows, make([]api.Value, blocks), api.ErrRows, api.ErrRows)
				}
			}
		}
	}
	must(t, seen[true] > 100 && seen[false] > 100, "%v", seen)
}

// TestBlocksOfOtherKinds: 25.1, of no other Kind a block is asked for.
func TestBlocksOfOtherKinds(t *testing.T) {
	rows := rowsOf(acked(1, write(0, a)), acked(2, read(0, a), write(1, b)))
	last := begun(0, 9, read(0, a))
	asked := append(begun(1, 8), asks(1, 8))
	for kind := -2; kind < 30; kind++ {
		if slices.Contains([]int{api.RowRead, api.RowWritten, api.RowCarried}, kind) {
			continue
		}
		for _, block := range edgesOf(2) {
			r := on(row(kind, 0, 9), block, c)
			ahead, behind := slices.Concat(rows, last), []api.Row(nil)
			switch kind {
			case api.RowBegun, api.RowRejected:
				ahead = rows
			case api.RowAppended:
				r.Ticket, r.Position, ahead = 8, 5, slices.Concat(rows, asked)
			case api.RowDone:
				r.Ticket, r.Position, ahead = 8, 5, slices.Concat(rows, asked, []api.Row{commits(8, 5)})
			case api.RowScanned:
				r.Position = 3
			}
			all := slices.Concat(ahead, []api.Row{r}, behind)
			_, no := history.Txs(all)
			must(t, no == api.OK, "the test's rows of kind %d: %d", kind, no)
			held(t, two, all)
			judging(t, two, all, none())
			homely(t, two, all, []api.Value{a, b}, -1)
		}
	}
}

// TestOnePosition: 25.1, two that stand have one Position, wherever they stand and however they came to stand; of two of which just one stands nothing is asked.
func TestOnePosition(t *testing.T) {
	stand := map[int]bool{history.Acknowledged: true, history.Found: true}
	for _, position := range []uint64{0, 1, 5, api.MaxPos, math.MaxUint64 - 1} {
		for _, first := range fates() {
			for _, second := range fates() {
				for _, between := range [][]deed{nil, {acked(3, write(1, b))}, {lost(6)}, {{fate: history.Dropped}, acked(4)}} {
					deeds := slices.Concat([]deed{{first, position, []api.Op{write(0, a)}}}, between, []deed{{second, position, []api.Op{write(0, b)}}})
					rows := rowsOf(deeds...)
					// A reading may make one stand that was left pending.
					both := 0
					for _, x := range txsOf(rows) {
						if stands(x) && x.Position == position {
							both++
						}
					}
					must(t, both == 2 || !(stand[first] && stand[second]), "the test's rows: %d stand", both)
					if both == 2 {
						refused(t, eight, rows, make([]api.Value, eight.Blocks), api.ErrRows, api.ErrRows)
						continue
					}
					maps := mapsOf(eight, rows)
					stored(t, eight, rows, maps...)
					judging(t, eight, rows, findingOf(eight, rows))
				}
			}
		}
	}
	// Neighbours and strangers among many, in any order.
	permutations(4, func(order []int) {
		var deeds []deed
		for _, n := range order {
			deeds = append(deeds, acked(uint64(n), write(n, numbered(n))))
		}
		held(t, eight, rowsOf(deeds...))
		for _, n := range order {
			refused(t, eight, rowsOf(append(deeds, acked(uint64(n)))...), make([]api.Value, eight.Blocks), api.ErrRows, api.ErrRows)
			held(t, eight, rowsOf(append(deeds, lost(uint64(n)))...))
		}
	})
}

// TestHomesThatMayNotBe: 25.4, ErrInput behind ErrConfig and ahead of ErrRows.
func TestHomesThatMayNotBe(t *testing.T) {
	for _, of := range configs() {
		for _, rows := range strange() {
			store, no := durable.Store(of, rows)
			must(t, no == mayNot(of, rows), "Store answers %d", no)
			for _, n := range []int{0, 1, 2, of.Blocks - 1, of.Blocks, of.Blocks + 1, 2 * of.Blocks, 64, 65, 1000} {
				homes := make([]api.Value, n)
				copy(homes, store)
				want := api.ErrInput
				if n == of.Blocks {
					want = no
				}
				got, noOf := durable.Homes(of, rows, homes)
				if want == api.OK {
					must(t, got == -1 && noOf == api.OK, "Homes answers %d, %d", got, noOf)
				} else {
					must(t, got == 0 && noOf == want, "Homes of %d homes of %d answers %d, %d, want %d", n, of.Blocks, got, noOf, want)
				}
			}
			got, noOf := durable.Homes(of, rows, nil)
			must(t, got == 0 && noOf == api.ErrInput, "Homes of none answers %d, %d", got, noOf)
		}
	}
}

// TestErrorsOfAll: which comes first, of each of the four, of each two that are so at once.
func TestErrorsOfAll(t *testing.T) {
	for what, rows := range strange() {
		for _, of := range []api.Config{two, wide, {}, config(2, 4, 2, 4, 0), config(65, 4, 2, 4, 1)} {
			for _, n := range []int{0, 1, 2, 3, 63, 64, 65} {
				t.Run(fmt.Sprint(what, of, n), func(t *testing.T) {
					homes := make([]api.Value, n)
					if of != two && of != wide {
						refused(t, of, rows, homes, api.ErrConfig, api.ErrConfig)
						return
					}
					no := mayNot(of, rows)
					noOf := api.ErrInput
					if n == of.Blocks {
						noOf = no
					}
					if no != api.OK {
						refused(t, of, rows, homes, no, noOf)
					} else {
						held(t, of, rows)
					}
				})
			}
		}
	}
}
