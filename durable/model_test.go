package durable_test

import (
	"math"
	"slices"
	"testing"

	"wicket/api"
	"wicket/durable"
	"wicket/history"
)

// The model keeps nothing from row to row: at each row it asks history of the rows ahead anew, and looks for the newest write by looking at all of them.

// txsOf tells the transactions of rows that history takes.
func txsOf(rows []api.Row) []history.Tx {
	txs, _ := history.Txs(rows)
	return txs
}

// stands tells whether a transaction is one of those that stand.
func stands(x history.Tx) bool {
	return x.Fate == history.Acknowledged || x.Fate == history.Found
}

// lastWritten tells what a transaction's rows have written last to a block, ahead of a place.
func lastWritten(rows []api.Row, x history.Tx, block, ahead int) (v api.Value, ok bool) {
	for i := x.Begun + 1; i < ahead; i++ {
		r := rows[i]
		if r.Actor != x.Client {
			continue
		}
		if r.Kind == api.RowBegun {
			break
		}
		if r.Kind == api.RowWritten && r.Block == block {
			v, ok = r.Value, true
		}
	}
	return v, ok
}

// newest tells a block's value behind those that stand with positions of at most some.
func newest(rows []api.Row, block int, most uint64) api.Value {
	v, from, any := zero, uint64(0), false
	for _, x := range txsOf(rows) {
		w, ok := lastWritten(rows, x, block, len(rows))
		if ok && stands(x) && x.Position <= most && (!any || x.Position > from) {
			v, from, any = w, x.Position, true
		}
	}
	return v
}

// top is at or above all positions.
const top = math.MaxUint64

// storeOf tells the store of rows.
func storeOf(of api.Config, rows []api.Row) []api.Value {
	var store []api.Value
	for block := range of.Blocks {
		store = append(store, newest(rows, block, top))
	}
	return store
}

// positions tells those of all that stand, rising.
func positions(rows []api.Row) []uint64 {
	var l []uint64
	for _, x := range txsOf(rows) {
		if stands(x) {
			l = append(l, x.Position)
		}
	}
	slices.Sort(l)
	return l
}

// mapsOf tells the maps of Steps.
func mapsOf(of api.Config, rows []api.Row) [][]api.Value {
	maps := [][]api.Value{make([]api.Value, of.Blocks)}
	for _, p := range positions(rows) {
		var m []api.Value
		for block := range of.Blocks {
			m = append(m, newest(rows, block, p))
		}
		maps = append(maps, m)
	}
	return maps
}

// mayNot tells which error rows have, of a configuration that may be.
func mayNot(of api.Config, rows []api.Row) api.Errno {
	for _, r := range rows {
		accesses := slices.Contains([]int{api.RowRead, api.RowWritten, api.RowCarried}, r.Kind)
		if accesses && (r.Block < 0 || r.Block >= of.Blocks) {
			return api.ErrRows
		}
	}
	if _, no := history.Txs(rows); no != api.OK {
		return api.ErrRows
	}
	l := positions(rows)
	if len(slices.Compact(slices.Clone(l))) < len(l) {
		return api.ErrRows
	}
	return api.OK
}

// whose tells which transaction holds something; -1, if none does.
func whose(rows []api.Row, holds func(history.Tx) bool) int {
	return slices.IndexFunc(txsOf(rows), holds)
}

// wanted tells what the row at a place should tell of its block, and whether anything is asked of that.
func wanted(of api.Config, rows []api.Row, i int) (v api.Value, tx int, asked bool) {
	r := rows[i]
	switch {
	case r.Kind == api.RowCarried && r.Actor == healer(of):
		return newest(rows[:i], r.Block, top), -1, true
	case r.Kind == api.RowRead:
		tx = whose(rows, func(x history.Tx) bool {
			return slices.ContainsFunc(x.Reads, func(rd history.Read) bool { return rd.Row == i })
		})
		v, own := lastWritten(rows, txsOf(rows)[tx], r.Block, i)
		if !own {
			v = newest(rows[:i], r.Block, top)
		}
		return v, tx, true
	}
	return zero, -1, false
}

// judgedAt tells what is found at a place.
func judgedAt(of api.Config, rows []api.Row, i int) durable.Finding {
	r := rows[i]
	switch {
	case r.Kind == api.RowAppended && r.Block == -1:
		above := func(o api.Row) bool {
			return o.Kind == api.RowAppended && o.Block == -1 && o.Position >= r.Position
		}
		if slices.ContainsFunc(rows[:i], above) {
			return order(i, whose(rows, func(x history.Tx) bool { return x.Commit == i }))
		}
	case r.Kind == api.RowScanned:
		is := func(x history.Tx) bool {
			return slices.IndexFunc(rows[:i], func(o api.Row) bool { return o.Kind == api.RowDone && o.Position >= r.Position }) >= 0 &&
				x.Done >= 0 && x.Done < i && x.Position >= r.Position
		}
		if tx := whose(rows, is); tx >= 0 {
			return gone(i, tx)
		}
	}
	if v, tx, asked := wanted(of, rows, i); asked && v != r.Value {
		return stale(i, tx, r.Block)
	}
	return none()
}

// findingOf tells what is found first.
func findingOf(of api.Config, rows []api.Row) durable.Finding {
	for i := range rows {
		if f := judgedAt(of, rows, i); !f.Good {
			return f
		}
	}
	return none()
}

// righted tells rows in which each read, and each home that a recovery writes, tells what it should.
func righted(of api.Config, rows []api.Row) []api.Row {
	right := slices.Clone(rows)
	for i := range right {
		if v, _, asked := wanted(of, right, i); asked {
			right[i].Value = v
		}
	}
	return right
}

// stepped goes through Steps once.
func stepped(t *testing.T, of api.Config, rows []api.Row) (maps [][]api.Value) {
	t.Helper()
	steps, no := durable.Steps(of, rows)
	must(t, no == api.OK && steps != nil, "Steps answers %v, %d, of %+v", steps != nil, no, rows)
	for k, m := range steps {
		must(t, k == len(maps), "Steps tells %d behind %d maps", k, len(maps))
		maps = append(maps, m)
	}
	return maps
}

// stored holds what Store and Steps answer.
func stored(t *testing.T, of api.Config, rows []api.Row, maps ...[]api.Value) {
	t.Helper()
	last := maps[len(maps)-1]
	store, no := durable.Store(of, rows)
	must(t, no == api.OK && slices.Equal(store, last), "Store answers %v, %d, want %v, of %+v", store, no, last, rows)
	steps := stepped(t, of, rows)
	must(t, slices.EqualFunc(steps, maps, slices.Equal), "Steps tells %v, want %v, of %+v", steps, maps, rows)
}

// judging holds what Judge answers.
func judging(t *testing.T, of api.Config, rows []api.Row, want durable.Finding) {
	t.Helper()
	f, no := durable.Judge(of, rows)
	must(t, no == api.OK && f == want, "Judge answers %+v, %d, want %+v, of %+v", f, no, want, rows)
}

// homely holds what Homes answers.
func homely(t *testing.T, of api.Config, rows []api.Row, homes []api.Value, want int) {
	t.Helper()
	n, no := durable.Homes(of, rows, homes)
	must(t, no == api.OK && n == want, "Homes of %v answers %d, %d, want %d, of %+v", homes, n, no, want, rows)
}

// refused holds that all calls answer an error, and nothing beside it.
func refused(t *testing.T, of api.Config, rows []api.Row, homes []api.Value, want, wantOfHomes api.Errno) {
	t.Helper()
	s, no := durable.Store(of, rows)
	must(t, no == want && len(s) == 0, "Store(%v, %+v) answers %v, %d, want %d", of, rows, s, no, want)
	steps, no := durable.Steps(of, rows)
	must(t, no == want && steps == nil, "Steps(%v, %+v) answers a sequence: %v, %d, want %d", of, rows, steps != nil, no, want)
	f, no := durable.Judge(of, rows)
	must(t, no == want && f == durable.Finding{}, "Judge(%v, %+v) answers %+v, %d, want %d", of, rows, f, no, want)
	n, no := durable.Homes(of, rows, homes)
	must(t, no == wantOfHomes && n == 0, "Homes(%v, %+v) of %d homes answers %d, %d, want %d", of, rows, len(homes), n, no, wantOfHomes)
}

// held holds all calls against the model, of a configuration that may be.
func held(t *testing.T, of api.Config, rows []api.Row) durable.Finding {
	t.Helper()
	if no := mayNot(of, rows); no != api.OK {
		refused(t, of, rows, make([]api.Value, of.Blocks), no, no)
		return durable.Finding{}
	}
	stored(t, of, rows, mapsOf(of, rows)...)
	store := storeOf(of, rows)
	homely(t, of, rows, store, -1)
	for _, block := range []int{0, len(rows) % of.Blocks, of.Blocks - 1} {
		homes := slices.Clone(store)
		homes[block][block%32]++
		homely(t, of, rows, homes, block)
		homes[of.Blocks-1][31]++
		homely(t, of, rows, homes, block)
	}
	f := findingOf(of, rows)
	judging(t, of, rows, f)
	return f
}
