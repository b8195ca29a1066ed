package history

import (
	"cmp"
	"slices"

	"wicket/api"
)

// Read is what a transaction has read.
type Read struct {
	Row   int // its place in the rows
	Block int
	Value api.Value
}

// Tx is a transaction that has taken a ticket.
type Tx struct {
	Client   int
	Life     uint64
	Ticket   uint64
	Set      []int       // its declared set
	Reads    []Read      // in their order
	Writes   []api.Image // of each block that it has written its last value, by their numbers rising
	Begun    int         // the place of its row RowBegun
	Asked    int         // of RowRequested; -1
	Commit   int         // of its commit's RowAppended; -1
	Position uint64      // the commit's; 0, if Commit is -1
	Done     int         // of RowDone; -1
	Fate     int
}

// Fates of transactions.
const (
	Open         = iota + 1 // none of these, up to the rows' end
	Aborted                 // its RowAborted has come
	Dropped                 // a crash came ahead of its commit's RowAppended
	Pending                 // its commit is written; it is not acknowledged, and no recovery has looked for it yet
	Acknowledged            // its RowDone has come
	Found                   // not acknowledged, but the first reading of a recovery behind its life's crash has found it
	Lost                    // .. has not found it
)

// nowhere is the place of a row that has not come.
const nowhere = -1

// noBlock is what the row of a commit's record says.
const noBlock = -1

// teller goes through rows, one by one, and knows the transactions so far.
type teller struct {
	txs    []*Tx
	open   [api.MaxClients]*Tx // by client the one that has begun and has not ended; nil, if there is none
	adrift []*Tx               // those that a crash has made Pending, and that no reading has looked for yet
}

// Txs tells the transactions of rows.
func Txs(rows []api.Row) ([]Tx, api.Errno) {
	t := &teller{}
	for at, row := range rows {
		if !t.take(at, row) {
			return nil, api.ErrRows
		}
	}
	return t.told(), api.OK
}

// take looks at the next row; false: what is asked of it is not so.
func (t *teller) take(at int, row api.Row) bool {
	switch row.Kind {
	case api.RowBegun:
		return t.begin(at, row)
	case api.RowEntered, api.RowLocked, api.RowRead, api.RowWritten, api.RowRequested, api.RowAborted:
		return t.step(at, row)
	case api.RowRefused:
		if row.Ticket == 0 {
			return t.isFree(row.Actor)
		}
		return t.own(row) != nil
	case api.RowRejected:
		return t.isFree(row.Actor)
	case api.RowAppended:
		return t.append(at, row)
	case api.RowDone:
		return t.done(at, row)
	case api.RowCrashed:
		t.crash()
	case api.RowScanned:
		t.scan(row.Position)
	}
	return true
}

// begin takes a RowBegun.
func (t *teller) begin(at int, row api.Row) bool {
	if !t.isFree(row.Actor) {
		return false
	}
	tx := &Tx{
		Client: row.Actor,
		Life:   row.Life,
		Ticket: row.Ticket,
		Set:    slices.Clone(row.Set),
		Begun:  at,
		Asked:  nowhere,
		Commit: nowhere,
		Done:   nowhere,
	}
	t.txs = append(t.txs, tx)
	t.open[tx.Client] = tx
	return true
}

// step takes a row of what a client does in its transaction.
func (t *teller) step(at int, row api.Row) bool {
	tx := t.own(row)
	if tx == nil {
		return false
	}
	switch row.Kind {
	case api.RowRead:
		tx.Reads = append(tx.Reads, Read{Row: at, Block: row.Block, Value: row.Value})
	case api.RowWritten:
		tx.Writes = append(tx.Writes, api.Image{Block: row.Block, Value: row.Value})
	case api.RowRequested:
		tx.Asked = at
	case api.RowAborted:
		t.end(tx, Aborted)
	}
	return true
}

// append takes a RowAppended.
func (t *teller) append(at int, row api.Row) bool {
	tx := t.only(row.Ticket)
	if tx == nil || tx.Asked == nowhere || tx.Commit != nowhere {
		return false
	}
	if row.Block == noBlock {
		tx.Commit, tx.Position = at, row.Position
	}
	return true
}

// done takes a RowDone.
func (t *teller) done(at int, row api.Row) bool {
	tx := t.only(row.Ticket)
	if tx == nil || tx.Commit == nowhere || tx.Position != row.Position {
		return false
	}
	tx.Done = at
	t.end(tx, Acknowledged)
	return true
}

// crash takes a RowCrashed.
func (t *teller) crash() {
	for _, tx := range t.open {
		switch {
		case tx == nil:
		case tx.Commit == nowhere:
			t.end(tx, Dropped)
		default:
			t.end(tx, Pending)
			t.adrift = append(t.adrift, tx)
		}
	}
}

// scan takes a RowScanned, which tells the end that was found.
func (t *teller) scan(end uint64) {
	for _, tx := range t.adrift {
		tx.Fate = Lost
		if tx.Position < end {
			tx.Fate = Found
		}
	}
	t.adrift = nil
}

// end ends a transaction.
func (t *teller) end(tx *Tx, fate int) {
	tx.Fate = fate
	t.open[tx.Client] = nil
}

// isFree tells whether an actor is a client that has no transaction.
func (t *teller) isFree(actor int) bool {
	return isClient(actor) && t.open[actor] == nil
}

// own tells the transaction of a client's row: nil, if the client has none of that ticket, or has asked for its commit.
func (t *teller) own(row api.Row) *Tx {
	if !isClient(row.Actor) {
		return nil
	}
	tx := t.open[row.Actor]
	if tx == nil || tx.Ticket != row.Ticket || tx.Asked != nowhere {
		return nil
	}
	return tx
}

// only tells the one transaction with a ticket that has not ended: nil, if there is none, or more than one.
func (t *teller) only(ticket uint64) *Tx {
	var found *Tx
	for _, tx := range t.open {
		switch {
		case tx == nil || tx.Ticket != ticket:
		case found != nil:
			return nil
		default:
			found = tx
		}
	}
	return found
}

// told tells all transactions as they are at the rows' end.
func (t *teller) told() []Tx {
	for _, tx := range t.open {
		switch {
		case tx == nil:
		case tx.Commit == nowhere:
			tx.Fate = Open
		default:
			tx.Fate = Pending
		}
	}
	l := make([]Tx, len(t.txs))
	for i, tx := range t.txs {
		l[i] = *tx
		l[i].Writes = lastOfEach(tx.Writes)
	}
	return l
}

// isClient tells whether a number may be a client's.
func isClient(actor int) bool {
	return actor >= 0 && actor < api.MaxClients
}

// lastOfEach sorts writes by their blocks, and leaves of each block the last one alone.
func lastOfEach(writes []api.Image) []api.Image {
	slices.SortStableFunc(writes, func(a, b api.Image) int { return cmp.Compare(a.Block, b.Block) })
	last := writes[:0]
	for i, w := range writes {
		if i+1 == len(writes) || writes[i+1].Block != w.Block {
			last = append(last, w)
		}
	}
	return last
}
