package durable

import (
	"wicket/api"
	"wicket/history"
)

// noBlock is what the row of a commit's record says.
const noBlock = -1

// good is the finding where nothing was found.
func good() Finding {
	return Finding{Good: true, Row: nowhere, Tx: nowhere, Block: nowhere}
}

// own is what a client's transaction has written so far.
type own struct {
	tx     int // its place in the transactions
	writes map[int]api.Value
}

// cell is a block's value, and of which commit it is.
type cell struct {
	value    api.Value
	position uint64
}

// highest is the greatest of positions, once there is one.
type highest struct {
	position uint64
	is       bool
}

// seen is what the rows ahead have told.
type seen struct {
	txs      []history.Tx
	recovery int                 // its actor's number
	ends     map[int]int         // by the place of a RowAppended or RowDone the transaction whose Commit or Done it is
	begun    int                 // how many have begun
	own      [api.MaxClients]own // of the last one that each client has begun
	store    [api.MaxBlocks]cell // of those that stand
	commits  highest             // of those that are written
	acks     highest             // of those that are acknowledged
	life     []int               // those whose commits were written in this life
	adrift   []int               // those of earlier lives which no reading has looked for yet
}

// newSeen is what is known ahead of all rows.
func newSeen(c api.Config, txs []history.Tx) *seen {
	s := &seen{txs: txs, recovery: c.Clients + 2, ends: map[int]int{}}
	for n, tx := range txs {
		// Where it has none, it is told of no row.
		s.ends[tx.Commit], s.ends[tx.Done] = n, n
	}
	return s
}

// judged tells what is found at the next row.
func (s *seen) judged(place int, row api.Row) Finding {
	switch {
	case row.Kind == api.RowAppended && row.Block == noBlock:
		if !s.commits.isBelow(row.Position) {
			return Finding{What: Order, Row: place, Tx: s.ends[place], Block: nowhere}
		}
	case row.Kind == api.RowScanned:
		if !s.acks.isBelow(row.Position) {
			return Finding{What: Gone, Row: place, Tx: s.gone(place, row.Position), Block: nowhere}
		}
	case row.Kind == api.RowRead:
		if s.read(row) != row.Value {
			return Finding{What: Stale, Row: place, Tx: s.own[row.Actor].tx, Block: row.Block}
		}
	case row.Kind == api.RowCarried && row.Actor == s.recovery:
		if s.store[row.Block].value != row.Value {
			return Finding{What: Stale, Row: place, Tx: nowhere, Block: row.Block}
		}
	}
	return good()
}

// add takes the next row to those ahead.
func (s *seen) add(place int, row api.Row) {
	switch row.Kind {
	case api.RowBegun:
		s.own[row.Actor] = own{tx: s.begun, writes: map[int]api.Value{}}
		s.begun++
	case api.RowWritten:
		s.own[row.Actor].writes[row.Block] = row.Value
	case api.RowAppended:
		if row.Block == noBlock {
			s.commits.rise(row.Position)
			s.life = append(s.life, s.ends[place])
		}
	case api.RowDone:
		s.acks.rise(row.Position)
		s.lay(s.txs[s.ends[place]])
	case api.RowCrashed:
		s.adrift = append(s.adrift, s.life...)
		s.life = nil
	case api.RowScanned:
		for _, n := range s.adrift {
			if s.txs[n].Fate == history.Found {
				s.lay(s.txs[n])
			}
		}
		s.adrift = nil
	}
}

// read tells what a RowRead should tell.
func (s *seen) read(row api.Row) api.Value {
	if v, ok := s.own[row.Actor].writes[row.Block]; ok {
		return v
	}
	return s.store[row.Block].value
}

// lay lays the writes of one that stands from now on into the store.
func (s *seen) lay(tx history.Tx) {
	for _, w := range tx.Writes {
		// Those that stand may have come in another order than that of their positions, of which no two are alike; nothing stands at first, which is at or below all.
		if tx.Position >= s.store[w.Block].position {
			s.store[w.Block] = cell{w.Value, tx.Position}
		}
	}
}

// gone tells the first that is acknowledged ahead of a row and has no position below one.
func (s *seen) gone(place int, position uint64) int {
	for n, tx := range s.txs {
		if tx.Done != nowhere && tx.Done < place && tx.Position >= position {
			return n
		}
	}
	return nowhere
}

// isBelow tells whether all of them are below a position.
func (h highest) isBelow(position uint64) bool {
	return !h.is || h.position < position
}

// rise takes one more position.
func (h *highest) rise(position uint64) {
	*h = highest{max(h.position, position), true}
}
