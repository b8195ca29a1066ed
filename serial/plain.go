package serial

import (
	"iter"
	"slices"

	"wicket/api"
	"wicket/history"
)

// plain is a map of blocks: an array, so that a transaction is done on a copy, and the map behind it is that copy. A store of fewer blocks leaves the last ones as they are.
type plain [api.MaxBlocks]api.Value

// redone tells the map behind a transaction that rows tell, and the first of its reads that is wrong (in which Tx says nothing).
func (m plain) redone(tx history.Tx, rows []api.Row) (plain, Finding) {
	first, read := good(), 0
	for row := range accesses(tx, rows) {
		if row.Kind == api.RowWritten {
			m[row.Block] = row.Value
			continue
		}
		if first.Good && m[row.Block] != row.Value {
			first = Finding{Read: read, Want: m[row.Block]}
		}
		read++
	}
	return m, first
}

// done tells the map behind Reads and Writes, and what the Reads have told.
func (m plain) done(ops []api.Op) (plain, []api.Value) {
	var reads []api.Value
	for _, op := range ops {
		if op.Kind == api.OpWrite {
			m[op.Block] = op.Value
		} else {
			reads = append(reads, m[op.Block])
		}
	}
	return m, reads
}

// values tells the first so many blocks' values.
func (m plain) values(blocks int) []api.Value {
	return slices.Clone(m[:blocks])
}

// accesses tells the rows RowRead and RowWritten of a transaction, as they come: those of its client, up to its next RowBegun.
func accesses(tx history.Tx, rows []api.Row) iter.Seq[api.Row] {
	return func(yield func(api.Row) bool) {
		for _, row := range rows[tx.Begun+1:] {
			if row.Actor != tx.Client {
				continue
			}
			switch row.Kind {
			case api.RowBegun:
				return
			case api.RowRead, api.RowWritten:
				if !yield(row) {
					return
				}
			}
		}
	}
}
