package history_test

import (
	"slices"

	"wicket/api"
	"wicket/history"
)

// The model knows no rows but those that it looks back at: what has become of a transaction it reckons anew at each place.

// ends tells whether a row ends the transaction that a RowBegun has begun.
func ends(r, begun api.Row) bool {
	return r.Kind == api.RowCrashed || r.Kind == api.RowAborted && r.Actor == begun.Actor || r.Kind == api.RowDone && r.Ticket == begun.Ticket
}

// life tells the rows of a transaction from behind its RowBegun on, with the one that ends it, if there is one.
func life(rows []api.Row, begun int) []api.Row {
	for i := begun + 1; i < len(rows); i++ {
		if ends(rows[i], rows[begun]) {
			return rows[begun+1 : i+1]
		}
	}
	return rows[begun+1:]
}

// standing tells the places of the RowBegun of all transactions that have not ended behind some rows.
func standing(rows []api.Row) []int {
	var l []int
	for i, r := range rows {
		if r.Kind != api.RowBegun {
			continue
		}
		if own := life(rows, i); len(own) == 0 || !ends(own[len(own)-1], r) {
			l = append(l, i)
		}
	}
	return l
}

// asked tells where a transaction has asked for its commit; -1.
func asked(rows []api.Row, begun int) int {
	return behind(begun, slices.IndexFunc(life(rows, begun), func(r api.Row) bool { return r.Kind == api.RowRequested && r.Actor == rows[begun].Actor }))
}

// committed tells where its commit was written; -1.
func committed(rows []api.Row, begun int) int {
	return behind(begun, slices.IndexFunc(life(rows, begun), func(r api.Row) bool {
		return r.Kind == api.RowAppended && r.Block == -1 && r.Ticket == rows[begun].Ticket
	}))
}

// behind tells the place of a row that is so far behind a RowBegun; -1, if there is none.
func behind(begun, far int) int {
	if far < 0 {
		return -1
	}
	return begun + 1 + far
}

// mayCome tells whether what 23.3 asks of a row is so, behind rows that may be.
func mayCome(rows []api.Row, r api.Row) bool {
	var own, named []int
	for _, begun := range standing(rows) {
		if rows[begun].Actor == r.Actor {
			own = append(own, begun)
		}
		if rows[begun].Ticket == r.Ticket {
			named = append(named, begun)
		}
	}
	client := r.Actor >= 0 && r.Actor <= 7
	acts := client && len(own) == 1 && rows[own[0]].Ticket == r.Ticket && asked(rows, own[0]) < 0
	switch r.Kind {
	case api.RowBegun, api.RowRejected:
		return client && len(own) == 0
	case api.RowEntered, api.RowLocked, api.RowRead, api.RowWritten, api.RowRequested, api.RowAborted:
		return acts
	case api.RowRefused:
		return r.Ticket != 0 && acts || r.Ticket == 0 && client && len(own) == 0
	case api.RowAppended:
		return len(named) == 1 && asked(rows, named[0]) >= 0 && committed(rows, named[0]) < 0
	case api.RowDone:
		return len(named) == 1 && committed(rows, named[0]) >= 0 && rows[committed(rows, named[0])].Position == r.Position
	}
	return true
}

// tellsOf tells the transaction that begins at a place of rows that may be.
func tellsOf(rows []api.Row, begun int) history.Tx {
	first := rows[begun]
	x := history.Tx{Client: first.Actor, Life: first.Life, Ticket: first.Ticket, Set: first.Set, Begun: begun,
		Asked: asked(rows, begun), Commit: committed(rows, begun), Done: -1, Fate: history.Open}
	if x.Commit >= 0 {
		x.Position, x.Fate = rows[x.Commit].Position, history.Pending
	}
	written := map[int]api.Value{}
	own := life(rows, begun)
	for i, r := range own {
		switch {
		case r.Kind == api.RowDone && r.Ticket == x.Ticket:
			x.Done, x.Fate = behind(begun, i), history.Acknowledged
		case r.Kind == api.RowCrashed && x.Commit < 0:
			x.Fate = history.Dropped
		case r.Kind == api.RowCrashed:
			x.Fate = sought(rows[begun+1+i:], x.Position)
		case r.Actor != x.Client:
		case r.Kind == api.RowAborted:
			x.Fate = history.Aborted
		case r.Kind == api.RowRead:
			x.Reads = append(x.Reads, history.Read{Row: behind(begun, i), Block: r.Block, Value: r.Value})
		case r.Kind == api.RowWritten:
			written[r.Block] = r.Value
		}
	}
	for b, v := range written {
		x.Writes = append(x.Writes, api.Image{Block: b, Value: v})
	}
	slices.SortFunc(x.Writes, func(a, b api.Image) int {
		if a.Block < b.Block {
			return -1
		}
		return 1
	})
	return x
}

// sought tells the fate of a commit that a crash has left at a position, by the first reading behind it.
func sought(rows []api.Row, position uint64) int {
	i := slices.IndexFunc(rows, func(r api.Row) bool { return r.Kind == api.RowScanned })
	switch {
	case i < 0:
		return history.Pending
	case position < rows[i].Position:
		return history.Found
	}
	return history.Lost
}

// allOf tells all transactions of rows that may be.
func allOf(rows []api.Row) []history.Tx {
	var l []history.Tx
	for i, r := range rows {
		if r.Kind == api.RowBegun {
			l = append(l, tellsOf(rows, i))
		}
	}
	return l
}

// mayBe tells whether each of the rows may come behind those ahead of it.
func mayBe(rows []api.Row) bool {
	for i, r := range rows {
		if !mayCome(rows[:i], r) {
			return false
		}
	}
	return true
}

// cut tells what a transaction of a run's rows was at a place of them: what came later is taken off.
func cut(rows []api.Row, x history.Tx, at int) history.Tx {
	if x.Asked >= at {
		x.Asked = -1
	}
	if x.Commit >= at {
		x.Commit, x.Position = -1, 0
	}
	if x.Done >= at {
		x.Done = -1
	}
	x.Reads = slices.DeleteFunc(slices.Clone(x.Reads), func(r history.Read) bool { return r.Row >= at })
	x.Writes = slices.DeleteFunc(slices.Clone(x.Writes), func(i api.Image) bool { return !writtenIn(rows[x.Begun:at], x, i.Block, &i.Value) })
	for n, i := range x.Writes {
		writtenIn(rows[x.Begun:at], x, i.Block, &x.Writes[n].Value)
	}
	x.Fate = fateIn(rows[x.Begun:at], x)
	return x
}

// writtenIn tells whether a transaction has written a block in the rows from its RowBegun on, and its last value.
func writtenIn(rows []api.Row, x history.Tx, block int, value *api.Value) bool {
	found := false
	for _, r := range life(rows, 0) {
		if r.Kind == api.RowWritten && r.Actor == x.Client && r.Block == block {
			found, *value = true, r.Value
		}
	}
	return found
}

// fateIn tells a transaction's fate by the rows from its RowBegun on.
func fateIn(rows []api.Row, x history.Tx) int {
	crashed := slices.IndexFunc(rows, func(r api.Row) bool { return r.Kind == api.RowCrashed })
	alive := rows
	if crashed >= 0 {
		alive = rows[:crashed]
	}
	aborted := slices.ContainsFunc(alive, func(r api.Row) bool {
		return r.Kind == api.RowAborted && r.Actor == x.Client && r.Ticket == x.Ticket
	})
	switch {
	case x.Done >= 0:
		return history.Acknowledged
	case aborted:
		return history.Aborted
	case x.Commit >= 0 && crashed >= 0:
		return sought(rows[crashed:], x.Position)
	case x.Commit >= 0:
		return history.Pending
	case crashed >= 0:
		return history.Dropped
	}
	return history.Open
}
