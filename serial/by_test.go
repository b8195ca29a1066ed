package serial_test

import (
	"fmt"
	"math"
	"slices"
	"testing"

	"wicket/api"
	"wicket/history"
	"wicket/serial"
)

// bying holds what By answers.
func bying(t *testing.T, rows []api.Row, blocks int, order []int, want serial.Finding, end []api.Value) {
	t.Helper()
	f, m, no := serial.By(rows, blocks, order)
	must(t, no == api.OK && f == want && slices.Equal(m, end), "By(.., %d, %v) answers %+v, %v, %d, want %+v, %v, of %+v", blocks, order, f, m, no, want, end, rows)
	if l := look(rows); l.may(order, blocks) {
		byHolds(t, rows, blocks, order)
	}
}

// refusedBy holds that By answers an error, and nothing beside it.
func refusedBy(t *testing.T, rows []api.Row, blocks int, order []int, want api.Errno) {
	t.Helper()
	f, m, no := serial.By(rows, blocks, order)
	must(t, no == want && f == serial.Finding{} && len(m) == 0, "By(.., %d, %v) answers %+v, %v, %d, want %d", blocks, order, f, m, no, want)
}

// chapters tells the rows of the second example: U, which comes behind T in the log, reads a value.
func chapters(told api.Value) []api.Row {
	return rowsOf(acked(1, write(0, a)), acked(3, read(0, told), write(1, b)))
}

// TestExamples: the chapter's.
func TestExamples(t *testing.T) {
	judges := func(rows []api.Row, want serial.Finding, end ...api.Value) {
		t.Helper()
		f, no := serial.Judge(rows, 2)
		must(t, no == api.OK && f == want, "Judge answers %+v, %d, want %+v", f, no, want)
		m, no := serial.Map(rows, 2)
		must(t, no == api.OK && slices.Equal(m, end), "Map answers %v, %d, want %v", m, no, end)
		judged(t, rows, 2)
	}
	ordering(t, nil, nil, api.OK)
	judges(nil, none(), zero, zero)
	for _, blocks := range []int{0, 65} {
		f, no := serial.Judge(nil, blocks)
		must(t, no == api.ErrInput && f == serial.Finding{}, "Judge(.., %d) answers %+v, %d", blocks, f, no)
	}
	ordering(t, chapters(a), []int{0, 1}, api.OK)
	judges(chapters(a), none(), a, b)
	judges(chapters(zero), serial.Finding{Tx: 1, Read: 0, Want: a}, a, b)
	bying(t, chapters(a), 2, []int{1, 0}, serial.Finding{Tx: 1, Read: 0, Want: zero}, []api.Value{a, b})
	judges(rowsOf(acked(0, write(0, a), read(0, a), write(0, b))), none(), b, zero)
	judges(rowsOf(acked(0, write(0, a), read(0, b), write(0, b))), serial.Finding{Tx: 0, Read: 0, Want: a}, b, zero)
	left := rowsOf(deed{history.Aborted, 0, []api.Op{read(0, c), write(0, c)}}, deed{history.Lost, 5, []api.Op{read(1, c), write(1, c)}})
	judges(left, none(), zero, zero)
	ordering(t, left, nil, api.OK)
	bying(t, left, 2, []int{0}, serial.Finding{Tx: 0, Read: 0, Want: zero}, []api.Value{c, zero})
	refusedBy(t, chapters(a), 2, []int{0, 0}, api.ErrRows)
	refusedBy(t, chapters(a), 2, []int{9}, api.ErrRows)
}

// TestReadsOfWrites: 24.2, a read ahead of any write, behind one of its own, behind two, of another block.
func TestReadsOfWrites(t *testing.T) {
	wrong := func(tx, read int, want api.Value) serial.Finding {
		return serial.Finding{Tx: tx, Read: read, Want: want}
	}
	earlier := acked(1, write(0, b), write(1, c)) // the place 0; what is looked at has the place 1
	for _, x := range []struct {
		what string
		ops  []api.Op
		want serial.Finding
		end  []api.Value
	}{
		{"nothing", nil, none(), []api.Value{b, c, zero}},
		{"ahead of any write", []api.Op{read(0, b), write(0, a)}, none(), []api.Value{a, c, zero}},
		{"ahead of any write, its own later one", []api.Op{read(0, a), write(0, a)}, wrong(1, 0, b), []api.Value{a, c, zero}},
		{"ahead of any write, zeros", []api.Op{read(0, zero)}, wrong(1, 0, b), []api.Value{b, c, zero}},
		{"of what nobody has written", []api.Op{read(2, zero)}, none(), []api.Value{b, c, zero}},
		{"of what nobody has written, another", []api.Op{read(2, a)}, wrong(1, 0, zero), []api.Value{b, c, zero}},
		{"behind a write", []api.Op{write(0, a), read(0, a)}, none(), []api.Value{a, c, zero}},
		{"behind a write, the map's", []api.Op{write(0, a), read(0, b)}, wrong(1, 0, a), []api.Value{a, c, zero}},
		{"behind two writes", []api.Op{write(0, a), write(0, c), read(0, c)}, none(), []api.Value{c, c, zero}},
		{"behind two writes, the first one", []api.Op{write(0, a), write(0, c), read(0, a)}, wrong(1, 0, c), []api.Value{c, c, zero}},
		{"between two writes", []api.Op{write(0, a), read(0, a), write(0, c)}, none(), []api.Value{c, c, zero}},
		{"between two writes, the second one", []api.Op{write(0, a), read(0, c), write(0, c)}, wrong(1, 0, a), []api.Value{c, c, zero}},
		{"behind a write of another block", []api.Op{write(1, a), read(0, b)}, none(), []api.Value{b, a, zero}},
		{"behind a write of another block, that one", []api.Op{write(1, a), read(0, a)}, wrong(1, 0, b), []api.Value{b, a, zero}},
		{"behind zeros that it has written", []api.Op{write(0, zero), read(0, zero)}, none(), []api.Value{zero, c, zero}},
		{"behind zeros that it has written, the map's", []api.Op{write(0, zero), read(0, b)}, wrong(1, 0, zero), []api.Value{zero, c, zero}},
		{"behind what stood there already", []api.Op{write(0, b), read(0, b), write(0, b)}, none(), []api.Value{b, c, zero}},
		{"the first of several", []api.Op{read(0, b), read(1, b), write(1, a), read(1, b)}, wrong(1, 1, c), []api.Value{b, a, zero}},
		{"the last of several", []api.Op{read(0, b), read(1, c), write(1, a), read(1, a), read(1, b)}, wrong(1, 3, a), []api.Value{b, a, zero}},
		{"places count Reads alone", []api.Op{write(0, a), write(1, a), write(2, a), read(0, a), write(0, b), read(0, a)}, wrong(1, 1, b), []api.Value{b, a, a}},
	} {
		t.Run(x.what, func(t *testing.T) {
			rows := rowsOf(earlier, acked(2, x.ops...))
			bying(t, rows, 3, []int{0, 1}, x.want, x.end)
			judged(t, rows, 3)
			// By another value in one byte alone, the first one or the last one.
			for _, i := range []int{0, 31} {
				for at, r := range rows {
					if r.Kind == api.RowRead {
						near := slices.Clone(rows)
						near[at].Value[i] ^= 0x80
						byHolds(t, near, 3, []int{0, 1})
						byHolds(t, near, 3, []int{1, 0})
					}
				}
			}
		})
	}
}

// TestFatesByOrder: 24.2, transactions of every fate are done all the same, with their writes.
func TestFatesByOrder(t *testing.T) {
	for _, first := range fates() {
		for _, second := range fates() {
			rows := rowsOf(deed{first, 5, []api.Op{read(0, zero), write(0, a)}}, deed{second, 2, []api.Op{read(0, a), write(1, b)}})
			bying(t, rows, 2, []int{0, 1}, none(), []api.Value{a, b})
			bying(t, rows, 2, []int{1, 0}, serial.Finding{Tx: 1, Read: 0, Want: zero}, []api.Value{a, b})
			bying(t, rows, 2, []int{0}, none(), []api.Value{a, zero})
			bying(t, rows, 2, []int{1}, serial.Finding{Tx: 1, Read: 0, Want: zero}, []api.Value{zero, b})
			bying(t, rows, 2, nil, none(), []api.Value{zero, zero})
			judged(t, rows, 2)
		}
	}
}

// TestAllOrders: 24.2, every list of some places, of a world by hand and of many by chance.
func TestAllOrders(t *testing.T) {
	ch := chance(41)
	w := world{clients: 4, blocks: 2, crashes: 30, values: ch.few}
	hand := rowsOf(acked(4, read(0, zero), write(0, a)), acked(3, read(0, a), write(1, b)), acked(2, read(1, b), write(0, c)), acked(1, read(0, c), read(1, b)))
	lists := [][]api.Row{nil, hand}
	for range 120 {
		lists = append(lists, ch.rows(w, 12+ch.below(30)))
	}
	seen := map[bool]int{}
	for _, rows := range lists {
		n := min(look(rows).txs, 4)
		parts(n, func(order []int) {
			byHolds(t, rows, w.blocks, order)
			right := righted(rows, order)
			f, _, _ := serial.By(right, w.blocks, order)
			must(t, f == none(), "of right reads: %+v", f)
			f, _, _ = serial.By(rows, w.blocks, order)
			seen[f.Good]++
		})
	}
	must(t, seen[true] > 100 && seen[false] > 100, "%v", seen)
}

// TestOrdersThatMayNot: 24.2, a number that is no place, or that stands there twice, wherever it stands.
func TestOrdersThatMayNot(t *testing.T) {
	for n := range 5 {
		var deeds []deed
		for i := range n {
			deeds = append(deeds, acked(uint64(i), write(i, a)))
		}
		rows := rowsOf(deeds...)
		permutations(n, func(order []int) {
			for i := range n + 1 {
				for _, bad := range []int{math.MinInt, math.MinInt32, -2, -1, n, n + 1, 64, math.MaxInt32, math.MaxInt} {
					refusedBy(t, rows, 8, slices.Insert(slices.Clone(order[:n-n/2]), min(i, n-n/2), bad), api.ErrRows)
					refusedBy(t, rows, 8, slices.Insert(slices.Clone(order), i, bad), api.ErrRows)
				}
				for _, again := range order {
					refusedBy(t, rows, 8, slices.Insert(slices.Clone(order), i, again), api.ErrRows)
				}
			}
			for cut := range n + 1 {
				byHolds(t, rows, 8, order[:cut])
				byHolds(t, rows, 8, order[cut:])
			}
		})
	}
	refusedBy(t, nil, 8, []int{0}, api.ErrRows)
	refusedBy(t, []api.Row{row(api.RowFlushed, 8, 0), crash()}, 8, []int{0}, api.ErrRows)
	refusedBy(t, chapters(a), 8, slices.Repeat([]int{0, 1}, 1000), api.ErrRows)
}

// TestBlocksOfOrders: 24.2 and 24.3, blocks of reads and writes that may not be: an error just if their transaction is of the order.
func TestBlocksOfOrders(t *testing.T) {
	for _, blocks := range []int{1, 2, 33, api.MaxBlocks - 1, api.MaxBlocks} {
		for _, block := range []int{math.MinInt, -blocks, -1, 0, blocks - 1, blocks, blocks + 1, 2 * blocks, api.MaxBlocks, 256, math.MaxInt} {
			may := block >= 0 && block < blocks
			for _, op := range []api.Op{read(block, zero), write(block, a)} {
				for _, ops := range [][]api.Op{{op}, {write(0, zero), op}, {read(0, zero), op, read(0, zero), write(0, zero)}, {op, write(0, zero), read(blocks-1, zero)}} {
					for _, fate := range fates() {
						rows := rowsOf(acked(7, write(0, b)), deed{fate, 4, ops}, acked(1))
						byHolds(t, rows, blocks, []int{2})
						byHolds(t, rows, blocks, []int{2, 0})
						byHolds(t, rows, blocks, []int{0, 1, 2})
						byHolds(t, rows, blocks, []int{1})
						judged(t, rows, blocks)
						if !may {
							refusedBy(t, rows, blocks, []int{1}, api.ErrRows)
							refusedBy(t, rows, blocks, []int{2, 0, 1}, api.ErrRows)
						}
						_, _, no := serial.By(rows, blocks, []int{2, 0})
						must(t, no == api.OK, "one that is not of the order: %d", no)
						_, no = serial.Judge(rows, blocks)
						counts := fate == history.Acknowledged || fate == history.Found
						must(t, (no == api.OK) == (may || !counts), "Judge of block %d of %d, fate %d: %d", block, blocks, fate, no)
					}
				}
			}
		}
	}
}

// TestWhichRead: 24.2, of several wrong reads the first one in the order is named, and the map is the same whatever is wrong.
func TestWhichRead(t *testing.T) {
	rows := rowsOf(acked(9, read(0, zero), write(0, a), read(0, a)), acked(5, read(0, zero), read(1, zero), write(1, b)), acked(7, read(1, zero), write(0, c), read(1, zero)))
	var reads []int
	for i, r := range rows {
		if r.Kind == api.RowRead {
			reads = append(reads, i)
		}
	}
	permutations(3, func(order []int) {
		right := righted(rows, order)
		_, end, _ := serial.By(right, 2, order)
		for wrong := range 1 << len(reads) {
			spoilt := slices.Clone(right)
			for n, i := range reads {
				if wrong>>n&1 == 1 {
					spoilt[i].Value[n*5]++
				}
			}
			byHolds(t, spoilt, 2, order)
			f, m, _ := serial.By(spoilt, 2, order)
			must(t, f.Good == (wrong == 0) && slices.Equal(m, end), "wrong %b: %+v, %v", wrong, f, m)
		}
	})
}

// merged goes through all ways in which the rows of several clients may come between one another.
func merged(lists [][]api.Row, each func([]api.Row)) {
	var grow func(rows []api.Row, rest [][]api.Row)
	grow = func(rows []api.Row, rest [][]api.Row) {
		over := true
		for i, l := range rest {
			if len(l) > 0 {
				over = false
				next := slices.Clone(rest)
				next[i] = l[1:]
				grow(append(rows[:len(rows):len(rows)], l[0]), next)
			}
		}
		if over {
			each(rows)
		}
	}
	grow(nil, lists)
}

// TestRowsBetweenOneAnother: 24.2, what is a transaction's own hangs on its client, not on what stands between.
func TestRowsBetweenOneAnother(t *testing.T) {
	deeds := []deed{
		{history.Aborted, 0, []api.Op{write(0, a), read(0, a), write(0, b), read(0, b)}},
		{history.Open, 0, []api.Op{read(0, zero), write(0, c), read(0, c), write(1, a)}},
	}
	n := 0
	merged([][]api.Row{deeds[0].rows(0, 1), deeds[1].rows(1, 1)}, func(rows []api.Row) {
		n++
		first := slices.IndexFunc(rows, func(r api.Row) bool { return r.Kind == api.RowBegun && r.Actor == 0 })
		second := slices.IndexFunc(rows, func(r api.Row) bool { return r.Kind == api.RowBegun && r.Actor == 1 })
		order, turned := []int{0, 1}, []int{1, 0}
		if first > second {
			order, turned = turned, order
		}
		bying(t, rows, 2, order, serial.Finding{Tx: order[1], Read: 0, Want: b}, []api.Value{c, a})
		bying(t, rows, 2, turned, none(), []api.Value{b, a})
	})
	must(t, n == 462, "%d ways", n)
	// Two transactions of one client, one behind the other, while another client's goes on.
	one := slices.Concat(deed{history.Aborted, 0, []api.Op{write(0, a)}}.rows(0, 1), deed{history.Open, 0, []api.Op{read(0, a), write(1, c)}}.rows(0, 3))
	other := deed{history.Open, 0, []api.Op{read(1, c), read(0, a), write(0, b)}}.rows(1, 2)
	merged([][]api.Row{one, other}, func(rows []api.Row) {
		permutations(3, func(order []int) { byHolds(t, rows, 2, order) })
	})
}

// TestOtherKindsBetween: 24.2, rows of other Kinds count for nothing, whoever's and of which block they are.
func TestOtherKindsBetween(t *testing.T) {
	rows := rowsOf(acked(1, write(0, a), read(0, a)), acked(2, read(0, a), write(1, b)))
	for _, kind := range []int{-1, 0, api.RowTaken, api.RowFlushed, api.RowChosen, api.RowCarried, api.RowMarked, api.RowFreed, api.RowScanned, api.RowLives, 21, 99} {
		for i := range len(rows) + 1 {
			for _, actor := range []int{-1, 0, 1, 8} {
				for _, block := range []int{-1, 0, 1, 64} {
					strange := on(row(kind, actor, 1), block, c)
					more := slices.Insert(slices.Clone(rows), i, strange)
					bying(t, more, 2, []int{0, 1}, none(), []api.Value{a, b})
				}
			}
		}
	}
	// Those of the transaction itself: refused accesses, locks, images that are appended.
	for _, kind := range []int{api.RowEntered, api.RowLocked, api.RowRefused} {
		for i := 1; i <= 3; i++ {
			for _, block := range []int{-1, 0, 1, 64} {
				more := slices.Insert(slices.Clone(rows), i, on(row(kind, 0, 1), block, c))
				bying(t, more, 2, []int{0, 1}, none(), []api.Value{a, b})
			}
		}
	}
}

// TestNoRowsOfEitherKind: 24.2, a transaction that has neither read nor written changes nothing.
func TestNoRowsOfEitherKind(t *testing.T) {
	rows := rowsOf(acked(1), acked(2, write(0, a)), acked(3), deed{history.Dropped, 0, nil}, acked(5, read(0, a)))
	bying(t, rows, 1, []int{0, 1, 2, 3, 4}, none(), []api.Value{a})
	bying(t, rows, 1, []int{3, 2, 0}, none(), []api.Value{zero})
	bying(t, rows, 1, []int{2, 1, 3, 4, 0}, none(), []api.Value{a})
	judged(t, rows, 1)
	bying(t, rowsOf(acked(1)), api.MaxBlocks, []int{0}, none(), make([]api.Value, api.MaxBlocks))
}

// TestByAtAllBlocks: 24.2, each block of each store has a value of its own.
func TestByAtAllBlocks(t *testing.T) {
	for blocks := 1; blocks <= api.MaxBlocks; blocks++ {
		var writes, reads []api.Op
		var end []api.Value
		for block := range blocks {
			writes, reads = append(writes, write(block, numbered(block+1))), append(reads, read(block, numbered(block+1)))
			end = append(end, numbered(block+1))
		}
		rows := rowsOf(acked(1, writes...), acked(2, reads...))
		bying(t, rows, blocks, []int{0, 1}, none(), end)
		bying(t, rows, blocks, []int{1, 0}, serial.Finding{Tx: 1, Read: 0}, end)
		bying(t, rows, blocks, []int{1}, serial.Finding{Tx: 1, Read: 0}, make([]api.Value, blocks))
		judged(t, rows, blocks)
	}
}

// TestErrors: ErrInput comes ahead of what Txs refuses, and that ahead of the others; with an error all else is zero.
func TestErrors(t *testing.T) {
	good := chapters(zero)
	rowss := map[string][]api.Row{
		"none": nil, "good": good, "no run's": good[1:], "one position": rowsOf(acked(1), acked(1)),
		"no block": rowsOf(acked(1, read(-1, a))), "both": append(rowsOf(acked(1, write(64, a)), acked(1)), row(api.RowRead, 7, 9)),
	}
	orders := [][]int{nil, {0}, {1, 0}, {0, 0}, {-1}, {9}}
	counts := []int{1, 2, 63, api.MaxBlocks}
	for what, rows := range rowss {
		_, txsNo := history.Txs(rows)
		for _, blocks := range append(edges(), counts...) {
			t.Run(fmt.Sprint(what, " ", blocks), func(t *testing.T) {
				f, nof := serial.Judge(rows, blocks)
				m, nom := serial.Map(rows, blocks)
				switch {
				case !slices.Contains(counts, blocks):
					refused(t, api.ErrInput, f, nof, m, nom)
				case txsNo != api.OK:
					refused(t, api.ErrRows, f, nof, m, nom)
				default:
					judged(t, rows, blocks)
				}
				for _, order := range orders {
					switch {
					case !slices.Contains(counts, blocks):
						refusedBy(t, rows, blocks, order, api.ErrInput)
					case txsNo != api.OK:
						refusedBy(t, rows, blocks, order, api.ErrRows)
					default:
						byHolds(t, rows, blocks, order)
					}
				}
			})
		}
	}
}

// TestJudgeIsByOfOrder: 24.3, beside Order and By of the same rows.
func TestJudgeIsByOfOrder(t *testing.T) {
	ch := chance(97)
	seen := map[string]int{}
	for _, w := range []world{{clients: 3, blocks: 2}, {clients: 6, blocks: 5, crashes: 30, twice: true}, {clients: 8, blocks: 9, crashes: 60}} {
		w.values = ch.few
		for range 300 {
			rows := ch.rows(w, 20+ch.below(80))
			blocks := max(1, w.blocks-ch.below(5)/4)
			if ch.oneIn(15) {
				rows = append(rows, row(api.RowWritten, 7, 99))
			}
			f, nof := serial.Judge(rows, blocks)
			m, nom := serial.Map(rows, blocks)
			order, no := serial.Order(rows)
			if no != api.OK {
				refused(t, no, f, nof, m, nom)
				seen["no order"]++
				continue
			}
			byF, byM, byNo := serial.By(rows, blocks, order)
			must(t, f == byF && nof == byNo && nom == byNo && slices.Equal(m, byM), "Judge: %+v, %d, Map: %v, %d, By: %+v, %v, %d", f, nof, m, nom, byF, byM, byNo)
			seen[fmt.Sprint("By ", byNo, byF.Good)]++
		}
	}
	must(t, len(seen) == 4, "%v", seen)
}

// TestLongRows: rows that no run is long enough for are told soon.
func TestLongRows(t *testing.T) {
	const n = 100000
	var rows []api.Row
	end := make([]api.Value, 3)
	for i := range n {
		rows = append(rows, acked(uint64(n-i), read(i%3, end[i%3]), write(i%3, numbered(i+1))).rows(i%8, uint64(i+1))...)
		end[i%3] = numbered(i + 1)
	}
	var order, back []int
	for i := range n {
		order, back = append(order, i), append(back, n-1-i)
	}
	f, m, no := serial.By(rows, 3, order)
	must(t, no == api.OK && f == none() && slices.Equal(m, end), "%+v, %v, %d", f, m, no)
	o, no := serial.Order(rows)
	must(t, no == api.OK && slices.Equal(o, back), "%d", no)
	f, no = serial.Judge(rows, 3)
	must(t, no == api.OK && f == serial.Finding{Tx: n - 1, Want: zero}, "%+v, %d", f, no)
	refusedBy(t, rows, 3, append(order, 0), api.ErrRows)
	// One transaction that is very long, while others stay open.
	long := acked(1)
	for i := range n {
		long.ops = append(long.ops, write(i%7, numbered(i)), read(i%7, numbered(i)))
	}
	rows = append(slices.Concat(deed{history.Open, 0, nil}.rows(1, 2), deed{history.Open, 0, nil}.rows(2, 3)), long.rows(0, 1)...)
	f, m, no = serial.By(rows, 7, []int{1, 2, 0})
	must(t, no == api.OK && f == none() && m[(n-1)%7] == numbered(n-1), "%+v, %d", f, no)
}
