package serial_test

import (
	"slices"
	"testing"

	"wicket/api"
	"wicket/history"
	"wicket/serial"
)

// The model has no map: what a read should have told it finds by looking back, in the transaction's own rows and then in the order's.

// looker is rows that are looked back at.
type looker struct {
	rows  []api.Row
	owner []int // of each row RowRead and RowWritten its transaction; -1 of each other one
	txs   int   // how many transactions there are
}

// look tells whose the rows are, each by the last RowBegun of its actor ahead of it.
func look(rows []api.Row) looker {
	l := looker{rows: rows, owner: make([]int, len(rows))}
	place := make([]int, len(rows))
	for i, r := range rows {
		l.owner[i] = -1
		if r.Kind == api.RowBegun {
			place[i] = l.txs
			l.txs++
		}
		if r.Kind != api.RowRead && r.Kind != api.RowWritten {
			continue
		}
		j := i - 1
		for rows[j].Kind != api.RowBegun || rows[j].Actor != r.Actor {
			j--
		}
		l.owner[i] = place[j]
	}
	return l
}

// own tells the places of a transaction's rows.
func (l looker) own(tx int) []int {
	var places []int
	for i, owner := range l.owner {
		if owner == tx {
			places = append(places, i)
		}
	}
	return places
}

// last tells what was written last to a block by rows at some places.
func (l looker) last(places []int, block int) (api.Value, bool) {
	for _, i := range slices.Backward(places) {
		if r := l.rows[i]; r.Kind == api.RowWritten && r.Block == block {
			return r.Value, true
		}
	}
	return zero, false
}

// behind tells a block's value behind an order.
func (l looker) behind(order []int, block int) api.Value {
	for _, tx := range slices.Backward(order) {
		if v, ok := l.last(l.own(tx), block); ok {
			return v
		}
	}
	return zero
}

// end tells all blocks' values behind an order.
func (l looker) end(order []int, blocks int) []api.Value {
	var values []api.Value
	for block := range blocks {
		values = append(values, l.behind(order, block))
	}
	return values
}

// wanted tells of each read of a transaction, done behind an order, what it should have told, and where its row stands.
func (l looker) wanted(order []int, tx int) (values []api.Value, places []int) {
	own := l.own(tx)
	for n, i := range own {
		if l.rows[i].Kind != api.RowRead {
			continue
		}
		v, ok := l.last(own[:n], l.rows[i].Block)
		if !ok {
			v = l.behind(order, l.rows[i].Block)
		}
		values, places = append(values, v), append(places, i)
	}
	return values, places
}

// finding tells the first read of an order that is wrong.
func (l looker) finding(order []int) serial.Finding {
	for n, tx := range order {
		values, places := l.wanted(order[:n], tx)
		for k, v := range values {
			if l.rows[places[k]].Value != v {
				return serial.Finding{Tx: tx, Read: k, Want: v}
			}
		}
	}
	return none()
}

// may tells whether an order may be.
func (l looker) may(order []int, blocks int) bool {
	for n, tx := range order {
		if tx < 0 || tx >= l.txs || slices.Contains(order[:n], tx) {
			return false
		}
		for _, i := range l.own(tx) {
			if l.rows[i].Block < 0 || l.rows[i].Block >= blocks {
				return false
			}
		}
	}
	return true
}

// ordered tells those that count, the least position first; false: one comes twice.
func ordered(rows []api.Row) ([]int, bool) {
	txs, _ := history.Txs(rows)
	at, once := map[uint64]int{}, true
	var positions []uint64
	for place, x := range txs {
		if x.Fate != history.Acknowledged && x.Fate != history.Found {
			continue
		}
		if _, ok := at[x.Position]; ok {
			once = false
		}
		at[x.Position] = place
		positions = append(positions, x.Position)
	}
	slices.Sort(positions)
	var order []int
	for _, p := range positions {
		order = append(order, at[p])
	}
	return order, once
}

// byHolds holds what By answers against the model, of rows that history.Txs takes.
func byHolds(t *testing.T, rows []api.Row, blocks int, order []int) {
	t.Helper()
	l := look(rows)
	f, m, no := serial.By(rows, blocks, order)
	if !l.may(order, blocks) {
		must(t, no == api.ErrRows && f == serial.Finding{} && len(m) == 0, "By(.., %d, %v) answers %+v, %v, %d, want ErrRows", blocks, order, f, m, no)
		return
	}
	want, end := l.finding(order), l.end(order, blocks)
	must(t, no == api.OK && f == want, "By(.., %d, %v) answers %+v, %d, want %+v, of %+v", blocks, order, f, no, want, rows)
	must(t, slices.Equal(m, end), "By(.., %d, %v) answers the map %v, want %v, of %+v", blocks, order, m, end, rows)
}

// judged holds what Order, Judge and Map answer against the model, of rows that history.Txs takes.
func judged(t *testing.T, rows []api.Row, blocks int) {
	t.Helper()
	order, once := ordered(rows)
	o, no := serial.Order(rows)
	f, nof := serial.Judge(rows, blocks)
	m, nom := serial.Map(rows, blocks)
	if !once {
		must(t, no == api.ErrRows && len(o) == 0, "Order answers %v, %d, want ErrRows", o, no)
		refused(t, api.ErrRows, f, nof, m, nom)
		return
	}
	must(t, no == api.OK && slices.Equal(o, order), "Order answers %v, %d, want %v, of %+v", o, no, order, rows)
	l := look(rows)
	if !l.may(order, blocks) {
		refused(t, api.ErrRows, f, nof, m, nom)
		return
	}
	want, end := l.finding(order), l.end(order, blocks)
	must(t, nof == api.OK && f == want, "Judge answers %+v, %d, want %+v, of %+v", f, nof, want, rows)
	must(t, nom == api.OK && slices.Equal(m, end), "Map answers %v, %d, want %v, of %+v", m, nom, end, rows)
}

// refused holds that Judge and Map have answered an error, and nothing beside it.
func refused(t *testing.T, want api.Errno, f serial.Finding, nof api.Errno, m []api.Value, nom api.Errno) {
	t.Helper()
	must(t, nof == want && f == serial.Finding{}, "Judge answers %+v, %d, want %d", f, nof, want)
	must(t, nom == want && len(m) == 0, "Map answers %v, %d, want %d", m, nom, want)
}

// righted tells rows in which each read of an order tells what it should.
func righted(rows []api.Row, order []int) []api.Row {
	right, l := slices.Clone(rows), look(rows)
	for n, tx := range order {
		values, places := l.wanted(order[:n], tx)
		for k, v := range values {
			right[places[k]].Value = v
		}
	}
	return right
}

// opsOf tells a transaction's rows as operations, and what its Reads' rows tell.
func (l looker) opsOf(tx int) (ops []api.Op, told []api.Value) {
	for _, i := range l.own(tx) {
		r := l.rows[i]
		if r.Kind == api.RowWritten {
			ops = append(ops, write(r.Block, r.Value))
			continue
		}
		ops = append(ops, read(r.Block, r.Value))
		told = append(told, r.Value)
	}
	return ops, told
}
