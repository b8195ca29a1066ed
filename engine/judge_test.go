package engine_test

import (
	"slices"
	"testing"

	"wicket/api"
	"wicket/engine"
)

// told is a block's value, as a row tells it.
type told struct {
	block int
	value api.Value
}

// deal is a transaction as its rows tell it.
type deal struct {
	ticket uint64
	reads  []told // those that the store has answered
	writes []told // in their order
	commit uint64
}

// judge knows nothing of machines: it looks at a run's rows one by one, and holds them, and the store, against what W1, W2, W4 and W5 promise.
type judge struct {
	c         api.Config
	values    []api.Value   // a plain map: all that stands, one transaction behind the other
	open      map[int]*deal // by client: begun, and neither acknowledged nor aborted
	line      []*deal       // committed in this life, and not acknowledged, in the commit order
	adrift    []*deal       // those that a crash has found there, till a recovery looks for them
	behind    uint64        // the position behind the last commit, over all lives
	acked     uint64        // the position behind the last acknowledged one
	begun, in uint64        // the last tickets that were given, and that were let in, in this life
	used      int
}

// seated tells a judge of a new disk.
func seated(c api.Config) *judge {
	return &judge{c: c, values: make([]api.Value, c.Blocks), open: map[int]*deal{}}
}

// copied tells another judge with the same.
func (j *judge) copied() *judge {
	twin := *j
	twins := map[*deal]*deal{}
	doubled := func(d *deal) *deal {
		if twins[d] == nil {
			twins[d] = &deal{d.ticket, slices.Clone(d.reads), slices.Clone(d.writes), d.commit}
		}
		return twins[d]
	}
	twin.values, twin.open = slices.Clone(j.values), map[int]*deal{}
	for n, d := range j.open {
		twin.open[n] = doubled(d)
	}
	twin.line, twin.adrift = nil, nil
	for _, d := range j.line {
		twin.line = append(twin.line, doubled(d))
	}
	for _, d := range j.adrift {
		twin.adrift = append(twin.adrift, doubled(d))
	}
	return &twin
}

// must ends a test in which something does not hold.
func must(t *testing.T, holds bool, what string, args ...any) {
	if !holds {
		t.Helper() // not ahead of it, as it costs more than most of what is asked
		t.Fatalf(what, args...)
	}
}

// row looks at the next row.
func (j *judge) row(t *testing.T, r api.Row) {
	t.Helper()
	d := j.open[r.Actor]
	switch r.Kind {
	case api.RowBegun:
		must(t, d == nil && r.Ticket == j.begun+1, "begun out of turn: %+v", r)
		j.begun, j.open[r.Actor] = r.Ticket, &deal{ticket: r.Ticket}
	case api.RowEntered:
		must(t, d.ticket == r.Ticket && r.Ticket > j.in, "let in ahead of an earlier one: %+v", r)
		j.in = r.Ticket
	case api.RowRead:
		j.read(t, d, told{r.Block, r.Value})
	case api.RowWritten:
		d.writes = append(d.writes, told{r.Block, r.Value})
	case api.RowAborted:
		delete(j.open, r.Actor)
	case api.RowAppended:
		j.append(t, r)
	case api.RowDone:
		first := j.line[0]
		must(t, first.commit == r.Position && first.ticket == r.Ticket, "acknowledged out of the commit order: %+v", r)
		j.line, j.acked = j.line[1:], r.Position+1
		j.stand(t, first)
		for n, d := range j.open {
			if d == first {
				delete(j.open, n)
			}
		}
	case api.RowFreed:
		j.used -= r.Count
	case api.RowCrashed:
		j.adrift = append(j.adrift, j.line...)
		j.line, j.open = nil, map[int]*deal{}
	case api.RowScanned:
		j.scanned(t, r)
	case api.RowLives:
		j.begun, j.in, j.used = 0, 0, 0
	}
}

// read looks at a read: it must tell the transaction's own last write, if there is one; what the store has told is judged when its turn in the commit order comes.
func (j *judge) read(t *testing.T, d *deal, r told) {
	t.Helper()
	for _, w := range slices.Backward(d.writes) {
		if w.block == r.block {
			must(t, w.value == r.value, "block %d's own write is not read", r.block)
			return
		}
	}
	d.reads = append(d.reads, r)
}

// append looks at a record.
func (j *judge) append(t *testing.T, r api.Row) {
	t.Helper()
	j.used++
	if r.Block >= 0 {
		return
	}
	must(t, r.Position >= j.behind, "a commit at %d, behind one ahead of %d", r.Position, j.behind)
	j.behind = r.Position + 1
	for _, d := range j.open {
		if d.ticket == r.Ticket {
			d.commit = r.Position
			j.line = append(j.line, d)
		}
	}
}

// stand does a transaction on the map.
func (j *judge) stand(t *testing.T, d *deal) {
	t.Helper()
	for _, r := range d.reads {
		must(t, j.values[r.block] == r.value, "ticket %d has read %x of block %d, want %x", d.ticket, r.value[:2], r.block, j.values[r.block][:2])
	}
	for _, w := range d.writes {
		j.values[w.block] = w.value
	}
}

// scanned looks at a recovery's reading: the first one behind a crash says which of those that were not acknowledged stand.
func (j *judge) scanned(t *testing.T, r api.Row) {
	t.Helper()
	must(t, r.Position >= j.acked, "an acknowledged commit ahead of %d is not found: the end is %d", j.acked, r.Position)
	for i, d := range j.adrift {
		if d.commit < r.Position {
			must(t, i == 0 || j.adrift[i-1].commit < r.Position, "found behind a lost one: %d", d.commit)
			j.stand(t, d)
		}
	}
	j.adrift = nil
}

// holds looks at an engine as it is behind the last row.
func (j *judge) holds(t *testing.T, e *engine.Engine) {
	t.Helper()
	if !e.Running() {
		return
	}
	must(t, slices.Equal(e.Store(), j.values), "the store is not the map behind all that stands")
	used, reserved := e.Room()
	must(t, used == j.used && reserved >= 0 && used+reserved <= j.c.LogCap, "%d used, %d reserved of %d; want %d used", used, reserved, j.c.LogCap, j.used)
	someone := false
	for n := range e.Actors() {
		someone = someone || e.Enabled(n)
	}
	must(t, someone || len(j.open) == 0, "%d transactions are open, and nobody is enabled", len(j.open))
	for _, w := range e.Waits() {
		must(t, w.From > w.To, "%d waits for %d", w.From, w.To)
	}
}
