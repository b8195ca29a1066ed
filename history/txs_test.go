package history_test

import (
	"fmt"
	"math"
	"slices"
	"testing"

	"wicket/api"
	"wicket/history"
)

// telling holds what Txs answers: ErrRows and nothing beside it (want nil), or these transactions.
func telling(t *testing.T, rows []api.Row, may bool, want []history.Tx) []history.Tx {
	t.Helper()
	l, no := history.Txs(rows)
	if !may {
		must(t, no == api.ErrRows && len(l) == 0, "Txs answers %d and %d transactions, want ErrRows, of %+v", no, len(l), rows)
		return nil
	}
	must(t, no == api.OK && slices.EqualFunc(l, want, sameTx), "Txs answers %d, %+v, want %+v, of %+v", no, l, want, rows)
	return l
}

// modelled holds what Txs answers against the model.
func modelled(t *testing.T, rows []api.Row) []history.Tx {
	t.Helper()
	if !mayBe(rows) {
		return telling(t, rows, false, nil)
	}
	return telling(t, rows, true, allOf(rows))
}

// row tells a client's row; its block is -1, and its place is told by nothing.
func row(kind, actor int, ticket uint64) api.Row {
	return api.Row{Kind: kind, Life: 1, Actor: actor, Ticket: ticket, Block: -1}
}

// on tells a row with another block and a value.
func on(r api.Row, block int, v api.Value) api.Row {
	r.Block, r.Value = block, v
	return r
}

// at tells a row with another position.
func at(r api.Row, position uint64) api.Row {
	r.Position = position
	return r
}

// The rows of a transaction of client 0 with ticket 1, and others.
func begun() api.Row    { r := row(api.RowBegun, 0, 1); r.Set = []int{0, 1}; return r }
func asks() api.Row     { return row(api.RowRequested, 0, 1) }
func image() api.Row    { return at(on(row(api.RowAppended, 2, 1), 1, filled(4)), 4) }
func commits() api.Row  { return at(row(api.RowAppended, 2, 1), 5) }
func finishes() api.Row { return at(row(api.RowDone, 2, 1), 5) }
func crashes() api.Row  { return row(api.RowCrashed, -1, 0) }
func scans(end uint64) api.Row {
	return at(row(api.RowScanned, 4, 0), end)
}

// one tells the transaction of those rows, with a fate.
func one(fate int) history.Tx {
	return history.Tx{Life: 1, Ticket: 1, Set: []int{0, 1}, Asked: -1, Commit: -1, Done: -1, Fate: fate}
}

// asking tells it, asked and, if it is not -1, committed at these places.
func asking(fate, asked, commit int) history.Tx {
	x := one(fate)
	x.Asked, x.Commit = asked, commit
	if commit >= 0 {
		x.Position = 5
	}
	return x
}

// TestTxsExamples: the chapter's.
func TestTxsExamples(t *testing.T) {
	first := history.Tx{Life: 1, Ticket: 1, Set: []int{1}, Writes: []api.Image{{Block: 1, Value: filled(7)}}, Asked: 4, Commit: 7, Position: 1, Done: 9, Fate: history.Acknowledged}
	telling(t, exampleRows(), true, []history.Tx{first})
	second, third := first, first
	second.Commit, second.Position, second.Done, second.Fate = -1, 0, -1, history.Dropped
	third.Done, third.Fate = -1, history.Found
	h := run(t, example(), [][]api.Op{exampleProgram()}, slices.Concat(actors(0, 0, 0, 0, 0, 1, 1), []api.Pick{crash()}, actors(3, 3, 3, 3)))
	telling(t, h.Rows, true, []history.Tx{second})
	h = run(t, example(), [][]api.Op{exampleProgram()}, slices.Concat(actors(0, 0, 0, 0, 0, 1, 1, 1, 1), []api.Pick{crash()}, actors(3, 3, 3, 3, 3)))
	telling(t, h.Rows, true, []history.Tx{third})
	telling(t, []api.Row{{Kind: api.RowRead, Ticket: 1}}, false, nil)
	telling(t, []api.Row{{Kind: api.RowFlushed}}, true, nil)
	telling(t, nil, true, nil)
	telling(t, []api.Row{}, true, nil)
}

// TestFates: each fate, at the rows' end and ahead of it.
func TestFates(t *testing.T) {
	dropped, aborted := one(history.Dropped), one(history.Aborted)
	done := asking(history.Acknowledged, 1, 2)
	done.Done = 3
	for _, x := range []struct {
		what string
		rows []api.Row
		want history.Tx
	}{
		{"begun", []api.Row{begun()}, one(history.Open)},
		{"let in and locking", []api.Row{begun(), row(api.RowEntered, 0, 1), on(row(api.RowLocked, 0, 1), 0, api.Value{})}, one(history.Open)},
		{"asked", []api.Row{begun(), asks()}, asking(history.Open, 1, -1)},
		{"an image", []api.Row{begun(), asks(), image(), image()}, asking(history.Open, 1, -1)},
		{"committed", []api.Row{begun(), asks(), commits()}, asking(history.Pending, 1, 2)},
		{"committed behind an image", []api.Row{begun(), asks(), image(), commits()}, asking(history.Pending, 1, 3)},
		{"acknowledged", []api.Row{begun(), asks(), commits(), finishes()}, done},
		{"acknowledged, and a crash", []api.Row{begun(), asks(), commits(), finishes(), crashes(), scans(0)}, done},
		{"aborted", []api.Row{begun(), row(api.RowAborted, 0, 1)}, aborted},
		{"aborted, and a crash", []api.Row{begun(), row(api.RowAborted, 0, 1), crashes(), scans(9)}, aborted},
		{"crashed", []api.Row{begun(), crashes()}, dropped},
		{"crashed and read", []api.Row{begun(), crashes(), scans(9)}, dropped},
		{"crashed when asked", []api.Row{begun(), asks(), crashes(), scans(9)}, asking(history.Dropped, 1, -1)},
		{"crashed behind an image", []api.Row{begun(), asks(), image(), crashes(), scans(9)}, asking(history.Dropped, 1, -1)},
		{"crashed when committed", []api.Row{begun(), asks(), commits(), crashes()}, asking(history.Pending, 1, 2)},
		{"and crashed again", []api.Row{begun(), asks(), commits(), crashes(), crashes(), crashes()}, asking(history.Pending, 1, 2)},
		{"found", []api.Row{begun(), asks(), commits(), crashes(), scans(6)}, asking(history.Found, 1, 2)},
		{"found far below", []api.Row{begun(), asks(), commits(), crashes(), scans(math.MaxUint64)}, asking(history.Found, 1, 2)},
		{"lost at the end", []api.Row{begun(), asks(), commits(), crashes(), scans(5)}, asking(history.Lost, 1, 2)},
		{"lost above it", []api.Row{begun(), asks(), commits(), crashes(), scans(4)}, asking(history.Lost, 1, 2)},
		{"lost at nothing", []api.Row{begun(), asks(), commits(), crashes(), scans(0)}, asking(history.Lost, 1, 2)},
		{"found behind two crashes", []api.Row{begun(), asks(), commits(), crashes(), crashes(), scans(6)}, asking(history.Found, 1, 2)},
		{"found, and then not", []api.Row{begun(), asks(), commits(), crashes(), scans(6), scans(5), crashes(), scans(0)}, asking(history.Found, 1, 2)},
		{"lost, and then not", []api.Row{begun(), asks(), commits(), crashes(), scans(5), scans(6), crashes(), scans(9)}, asking(history.Lost, 1, 2)},
		{"read with no crash", []api.Row{begun(), asks(), commits(), scans(9), scans(0)}, asking(history.Pending, 1, 2)},
		{"read with no crash, then crashed", []api.Row{begun(), asks(), commits(), scans(9), crashes()}, asking(history.Pending, 1, 2)},
		{"read ahead and behind", []api.Row{begun(), asks(), commits(), scans(9), crashes(), scans(0)}, asking(history.Lost, 1, 2)},
	} {
		t.Run(x.what, func(t *testing.T) {
			telling(t, x.rows, true, []history.Tx{x.want})
			modelled(t, x.rows)
		})
	}
}

// TestReadsAndWrites: what they tell, in which order, of which blocks.
func TestReadsAndWrites(t *testing.T) {
	reads := func(b int, n byte) api.Row { return on(row(api.RowRead, 0, 1), b, filled(n)) }
	writes := func(b int, n byte) api.Row { return on(row(api.RowWritten, 0, 1), b, filled(n)) }
	rows := []api.Row{begun(), reads(1, 5), writes(3, 1), reads(3, 1), writes(0, 2), writes(3, 3), {Kind: api.RowFlushed}, reads(1, 5),
		writes(math.MaxInt, 4), writes(-1, 5), writes(math.MinInt, 6), writes(2, 0), reads(math.MinInt, 0), writes(-1, 0), reads(-1, 9), writes(math.MaxInt, 9)}
	want := one(history.Open)
	want.Reads = []history.Read{{Row: 1, Block: 1, Value: filled(5)}, {Row: 3, Block: 3, Value: filled(1)}, {Row: 7, Block: 1, Value: filled(5)}, {Row: 12, Block: math.MinInt}, {Row: 14, Block: -1, Value: filled(9)}}
	want.Writes = []api.Image{{Block: math.MinInt, Value: filled(6)}, {Block: -1}, {Block: 0, Value: filled(2)}, {Block: 2}, {Block: 3, Value: filled(3)}, {Block: math.MaxInt, Value: filled(9)}}
	telling(t, rows, true, []history.Tx{want})
	// Each order of writing three blocks, each of them once or twice.
	for _, order := range [][]int{{0, 1, 2}, {0, 2, 1}, {1, 0, 2}, {1, 2, 0}, {2, 0, 1}, {2, 1, 0}, {0, 1, 2, 0}, {2, 1, 0, 2}, {1, 1, 0, 0, 2, 2}, {2, 2, 1, 0, 1, 0}} {
		rows := []api.Row{begun()}
		for i, b := range order {
			rows = append(rows, writes(b, byte(i)))
		}
		l := modelled(t, rows)
		must(t, len(l[0].Writes) == 3, "%d writes of the order %v", len(l[0].Writes), order)
	}
}

// TestSets: the set is the row's, whatever stands in it.
func TestSets(t *testing.T) {
	for _, set := range [][]int{nil, {}, {0}, {3, 1, 1}, {math.MinInt, math.MaxInt}} {
		r := begun()
		r.Set, r.Life = set, math.MaxUint64
		want := one(history.Open)
		want.Set, want.Life = set, math.MaxUint64
		telling(t, []api.Row{r}, true, []history.Tx{want})
	}
}

// states tells rows that leave client 0 in each state that there is, and others beside it.
func states() map[string][]api.Row {
	second := func(ticket uint64, more ...api.Row) []api.Row {
		return append([]api.Row{begun(), row(api.RowBegun, 1, ticket)}, more...)
	}
	return map[string][]api.Row{
		"nothing":                        {},
		"begun":                          {begun()},
		"let in":                         {begun(), row(api.RowEntered, 0, 1)},
		"begun with ticket 0":            {row(api.RowBegun, 0, 0)},
		"begun with the last ticket":     {row(api.RowBegun, 0, math.MaxUint64)},
		"asked":                          {begun(), asks()},
		"asked with ticket 0":            {row(api.RowBegun, 0, 0), row(api.RowRequested, 0, 0)},
		"an image":                       {begun(), asks(), image()},
		"committed":                      {begun(), asks(), commits()},
		"committed at 0":                 {begun(), asks(), at(commits(), 0)},
		"acknowledged":                   {begun(), asks(), commits(), finishes()},
		"aborted":                        {begun(), row(api.RowAborted, 0, 1)},
		"crashed":                        {begun(), crashes()},
		"crashed when committed":         {begun(), asks(), commits(), crashes()},
		"begun anew":                     {begun(), asks(), commits(), finishes(), begun()},
		"begun anew behind a crash":      {begun(), asks(), commits(), crashes(), begun()},
		"asked anew behind a crash":      {begun(), asks(), commits(), crashes(), begun(), asks()},
		"committed anew":                 {begun(), asks(), commits(), crashes(), begun(), asks(), at(commits(), 6)},
		"another with the ticket":        second(1),
		"another with the ticket, asked": second(1, asks(), row(api.RowRequested, 1, 1)),
		"one of two asked":               second(1, asks()),
		"two, one committed":             {begun(), asks(), commits(), row(api.RowBegun, 1, 1)},
		"two, one aborted":               second(1, asks(), row(api.RowAborted, 1, 1)),
		"two, the other left":            second(1, row(api.RowRequested, 1, 1), row(api.RowAborted, 0, 1)),
		"another with its own":           second(2, row(api.RowRequested, 1, 2)),
		"another that is committed":      second(2, row(api.RowRequested, 1, 2), at(row(api.RowAppended, 2, 2), 5)),
		"the last client":                {row(api.RowBegun, 7, 1), row(api.RowRequested, 7, 1)},
		"all clients":                    {begun(), row(api.RowBegun, 1, 2), row(api.RowBegun, 2, 3), row(api.RowBegun, 3, 4), row(api.RowBegun, 4, 5), row(api.RowBegun, 5, 6), row(api.RowBegun, 6, 7), row(api.RowBegun, 7, 8)},
	}
}

// kinds tells all kinds of rows, and numbers that are none.
func kinds() []int {
	l := []int{math.MinInt, -3, -1, math.MaxInt, api.RowRead + 1<<32, api.RowCrashed + 1<<32}
	for kind := range api.RowLives + 4 {
		l = append(l, kind)
	}
	return l
}

// TestEachRowInEachState: 23.3, what is asked of each kind, with each actor and ticket, in each state.
func TestEachRowInEachState(t *testing.T) {
	for what, rows := range states() {
		t.Run(what, func(t *testing.T) {
			t.Parallel()
			must(t, mayBe(rows), "the rows may not be")
			n := 0
			for _, kind := range kinds() {
				for _, actor := range []int{math.MinInt, -8, -1, 0, 1, 2, 6, 7, 8, 9, 1 << 32, math.MaxInt} {
					for _, ticket := range []uint64{0, 1, 2, 8, 1 << 32, math.MaxUint64} {
						for _, block := range []int{-1, 0, -2} {
							for _, position := range []uint64{0, 5, 4, 6} {
								r := at(on(row(kind, actor, ticket), block, filled(3)), position)
								modelled(t, append(rows[:len(rows):len(rows)], r))
								n++
							}
						}
					}
				}
			}
			t.Logf("%d rows", n)
		})
	}
}

// TestBrokenConditions: 23.3, each thing that is asked, written out, kept and broken once.
func TestBrokenConditions(t *testing.T) {
	of := func(kind int) api.Row { return row(kind, 0, 1) }
	both := []api.Row{begun(), row(api.RowBegun, 1, 1)}
	for _, x := range []struct {
		what string
		rows []api.Row
		may  bool
	}{
		{"begun within", []api.Row{begun(), row(api.RowBegun, 0, 2)}, false},
		{"begun when asked", []api.Row{begun(), asks(), begun()}, false},
		{"begun when committed", []api.Row{begun(), asks(), commits(), begun()}, false},
		{"begun behind Done", []api.Row{begun(), asks(), commits(), finishes(), begun()}, true},
		{"begun behind Abort", []api.Row{begun(), of(api.RowAborted), begun()}, true},
		{"begun behind a crash", []api.Row{begun(), crashes(), begun()}, true},
		{"begun behind a crash when committed", []api.Row{begun(), asks(), commits(), crashes(), begun()}, true},
		{"begun by another", []api.Row{begun(), row(api.RowBegun, 1, 2)}, true},
		{"begun by another with the ticket", both, true},
		{"begun by the last client", []api.Row{row(api.RowBegun, 7, 1)}, true},
		{"begun by no client", []api.Row{row(api.RowBegun, 8, 1)}, false},
		{"begun by nobody", []api.Row{row(api.RowBegun, -1, 1)}, false},
		{"rejected outside", []api.Row{row(api.RowRejected, 0, 0)}, true},
		{"rejected outside with a ticket", []api.Row{row(api.RowRejected, 0, 9)}, true},
		{"rejected within", []api.Row{begun(), row(api.RowRejected, 0, 0)}, false},
		{"rejected when committed", []api.Row{begun(), asks(), commits(), row(api.RowRejected, 0, 0)}, false},
		{"rejected behind", []api.Row{begun(), of(api.RowAborted), row(api.RowRejected, 0, 0)}, true},
		{"rejected by the last client", []api.Row{row(api.RowRejected, 7, 0)}, true},
		{"rejected by no client", []api.Row{row(api.RowRejected, 8, 0)}, false},
		{"refused outside", []api.Row{row(api.RowRefused, 0, 0)}, true},
		{"refused outside with a ticket", []api.Row{row(api.RowRefused, 0, 1)}, false},
		{"refused within", []api.Row{begun(), of(api.RowRefused)}, true},
		{"refused within with no ticket", []api.Row{begun(), row(api.RowRefused, 0, 0)}, false},
		{"refused within with no ticket, which is its own", []api.Row{row(api.RowBegun, 0, 0), row(api.RowRefused, 0, 0)}, false},
		{"refused within with another ticket", []api.Row{begun(), row(api.RowRefused, 0, 2)}, false},
		{"refused when asked", []api.Row{begun(), asks(), of(api.RowRefused)}, false},
		{"refused when asked, with no ticket", []api.Row{begun(), asks(), row(api.RowRefused, 0, 0)}, false},
		{"refused behind", []api.Row{begun(), asks(), commits(), finishes(), row(api.RowRefused, 0, 0)}, true},
		{"refused behind with the ticket", []api.Row{begun(), asks(), commits(), finishes(), of(api.RowRefused)}, false},
		{"refused by the last client", []api.Row{row(api.RowRefused, 7, 0)}, true},
		{"refused by no client", []api.Row{row(api.RowRefused, 8, 0)}, false},
		{"refused by nobody", []api.Row{row(api.RowRefused, -1, 0)}, false},
		{"appended to nothing", []api.Row{commits()}, false},
		{"appended unasked", []api.Row{begun(), commits()}, false},
		{"an image unasked", []api.Row{begun(), image()}, false},
		{"appended", []api.Row{begun(), asks(), commits()}, true},
		{"by any actor", []api.Row{begun(), asks(), {Kind: api.RowAppended, Actor: math.MinInt, Ticket: 1, Block: 7}, {Kind: api.RowAppended, Actor: math.MaxInt, Ticket: 1, Block: -1}}, true},
		{"an image of any block", []api.Row{begun(), asks(), {Kind: api.RowAppended, Ticket: 1, Block: -2}, {Kind: api.RowAppended, Ticket: 1, Block: 99}, commits()}, true},
		{"appended with another ticket", []api.Row{begun(), asks(), row(api.RowAppended, 2, 2)}, false},
		{"an image behind the commit", []api.Row{begun(), asks(), commits(), image()}, false},
		{"two commits", []api.Row{begun(), asks(), commits(), commits()}, false},
		{"appended behind Done", []api.Row{begun(), asks(), commits(), finishes(), commits()}, false},
		{"appended behind Abort", []api.Row{begun(), of(api.RowAborted), commits()}, false},
		{"appended behind a crash", []api.Row{begun(), asks(), crashes(), commits()}, false},
		{"appended to one of two", append(both[:2:2], asks(), commits()), false},
		{"appended to two that asked", append(both[:2:2], asks(), row(api.RowRequested, 1, 1), commits()), false},
		{"appended to one, the other ended", append(both[:2:2], asks(), row(api.RowAborted, 1, 1), commits()), true},
		{"appended to the other, the first ended", append(both[:2:2], row(api.RowRequested, 1, 1), of(api.RowAborted), commits()), true},
		{"appended to one, another one committed", []api.Row{begun(), asks(), commits(), row(api.RowBegun, 1, 1), row(api.RowRequested, 1, 1), commits()}, false},
		{"appended to one in each life", []api.Row{begun(), asks(), commits(), crashes(), begun(), asks(), at(commits(), 9)}, true},
		{"done of nothing", []api.Row{finishes()}, false},
		{"done ahead of asking", []api.Row{begun(), finishes()}, false},
		{"done ahead of the commit", []api.Row{begun(), asks(), at(finishes(), 0)}, false},
		{"done behind an image", []api.Row{begun(), asks(), image(), at(finishes(), 4)}, false},
		{"done at another position", []api.Row{begun(), asks(), commits(), at(finishes(), 4)}, false},
		{"done above it", []api.Row{begun(), asks(), commits(), at(finishes(), 6)}, false},
		{"done with another ticket", []api.Row{begun(), asks(), commits(), at(row(api.RowDone, 2, 2), 5)}, false},
		{"done by any actor", []api.Row{begun(), asks(), commits(), {Kind: api.RowDone, Actor: -9, Ticket: 1, Position: 5}}, true},
		{"done twice", []api.Row{begun(), asks(), commits(), finishes(), finishes()}, false},
		{"done behind a crash", []api.Row{begun(), asks(), commits(), crashes(), finishes()}, false},
		{"done of one of two", []api.Row{begun(), asks(), commits(), row(api.RowBegun, 1, 1), finishes()}, false},
		{"done of one, the other ended", []api.Row{begun(), asks(), commits(), row(api.RowBegun, 1, 1), row(api.RowAborted, 1, 1), finishes()}, true},
		{"crashed of nothing", []api.Row{crashes(), crashes()}, true},
		{"read of nothing", []api.Row{scans(5), scans(0)}, true},
		{"other kinds, with whatever they have", []api.Row{{Kind: 0, Actor: -5, Ticket: 7}, {Kind: -1, Actor: 99}, {Kind: 99}, {Kind: api.RowTaken, Actor: -1}, {Kind: api.RowLives, Actor: 70, Ticket: 3}, {Kind: api.RowCarried, Block: -9}}, true},
	} {
		t.Run(x.what, func(t *testing.T) {
			_, no := history.Txs(x.rows)
			must(t, (no == api.OK) == x.may && (no == api.OK || no == api.ErrRows), "Txs answers %d, want that it may: %v", no, x.may)
			modelled(t, x.rows)
		})
	}
	for _, kind := range []int{api.RowEntered, api.RowLocked, api.RowRead, api.RowWritten, api.RowRequested, api.RowAborted} {
		for _, x := range []struct {
			rows []api.Row
			may  bool
		}{
			{[]api.Row{begun(), of(kind)}, true},
			{[]api.Row{of(kind)}, false},
			{[]api.Row{begun(), row(kind, 0, 2)}, false},
			{[]api.Row{begun(), row(kind, 0, 0)}, false},
			{[]api.Row{begun(), row(kind, 1, 1)}, false},
			{[]api.Row{begun(), row(kind, 8, 1)}, false},
			{[]api.Row{begun(), row(kind, -1, 1)}, false},
			{[]api.Row{row(api.RowBegun, 7, 1), row(kind, 7, 1)}, true},
			{[]api.Row{begun(), asks(), of(kind)}, false},
			{[]api.Row{begun(), asks(), commits(), of(kind)}, false},
			{[]api.Row{begun(), asks(), commits(), finishes(), of(kind)}, false},
			{[]api.Row{begun(), of(api.RowAborted), of(kind)}, false},
			{[]api.Row{begun(), crashes(), of(kind)}, false},
			{[]api.Row{begun(), row(api.RowBegun, 1, 1), of(kind), row(kind, 1, 1)}, true},
			{[]api.Row{row(api.RowBegun, 0, 0), row(kind, 0, 0)}, true},
		} {
			_, no := history.Txs(x.rows)
			must(t, (no == api.OK) == x.may, "kind %d in %+v: %d", kind, x.rows, no)
			modelled(t, x.rows)
		}
	}
}

// ways goes through all lists of up to so many rows out of some: those that may be are gone on with. It tells how many were held against the model.
func ways(t *testing.T, rows []api.Row, of []api.Row, most int) int {
	t.Helper()
	n := 0
	for _, r := range of {
		next := append(rows[:len(rows):len(rows)], r)
		n++
		if !mayCome(rows, r) {
			telling(t, next, false, nil)
			// What comes behind does not mend it.
			telling(t, append(next, of[n%len(of)], crashes(), begun()), false, nil)
			continue
		}
		telling(t, next, true, allOf(next))
		if len(next) < most {
			n += ways(t, next, of, most)
		}
	}
	return n
}

// TestAllShortRows goes through all short lists of rows of one client, of two with one ticket, and of two with tickets of their own.
func TestAllShortRows(t *testing.T) {
	of := func(kind, actor int, ticket uint64) api.Row { return row(kind, actor, ticket) }
	for i, x := range []struct {
		rows []api.Row
		most int
	}{
		{[]api.Row{begun(), on(of(api.RowRead, 0, 1), 1, filled(1)), on(of(api.RowWritten, 0, 1), 1, filled(2)), on(of(api.RowWritten, 0, 1), 0, filled(3)), asks(), of(api.RowAborted, 0, 1),
			of(api.RowRefused, 0, 1), of(api.RowRefused, 0, 0), of(api.RowRejected, 0, 0), image(), commits(), finishes(), crashes(), scans(5), scans(6)}, 6},
		{[]api.Row{begun(), asks(), commits(), at(commits(), 3), finishes(), at(finishes(), 3), crashes(), scans(4), scans(9)}, 8},
		{[]api.Row{begun(), of(api.RowBegun, 1, 1), asks(), of(api.RowRequested, 1, 1), commits(), finishes(), of(api.RowAborted, 0, 1), of(api.RowAborted, 1, 1), crashes(), scans(9)}, 7},
		{[]api.Row{begun(), of(api.RowBegun, 1, 2), asks(), of(api.RowRequested, 1, 2), commits(), at(of(api.RowAppended, 0, 2), 7), finishes(), at(of(api.RowDone, 0, 2), 7), crashes(), scans(6)}, 7},
	} {
		t.Run(fmt.Sprint(i), func(t *testing.T) {
			t.Parallel()
			t.Logf("%d lists", ways(t, nil, x.rows, x.most))
		})
	}
}

// TestRowsOfRuns: 23.3 and P23.8 and P23.9, of long runs, with and without crashes: the model's transactions, and those of the first so many rows.
func TestRowsOfRuns(t *testing.T) {
	named(t, append(small(), large()...), func(t *testing.T, c api.Config, ch *chance) {
		for _, often := range []int{0, 4, 15, 70} {
			h := ch.any(t, c, 350, often)
			whole := modelled(t, h.Rows)
			rising(t, h.Rows, whole)
			for at := range h.Rows {
				var want []history.Tx
				for _, x := range whole {
					if x.Begun < at {
						want = append(want, cut(h.Rows, x, at))
					}
				}
				telling(t, h.Rows[:at], true, want)
			}
		}
	})
}

// rising holds P23.8: tickets rise in each life, and in the order of their commits' rows positions rise over all lives.
func rising(t *testing.T, rows []api.Row, txs []history.Tx) {
	t.Helper()
	for i := range txs {
		must(t, i == 0 || txs[i-1].Life < txs[i].Life || txs[i-1].Life == txs[i].Life && txs[i-1].Ticket < txs[i].Ticket, "ticket %d of life %d comes late", txs[i].Ticket, txs[i].Life)
	}
	commits := slices.DeleteFunc(slices.Clone(txs), func(x history.Tx) bool { return x.Commit < 0 })
	slices.SortFunc(commits, func(a, b history.Tx) int { return a.Commit - b.Commit })
	for i, x := range commits {
		must(t, i == 0 || commits[i-1].Position < x.Position, "a commit at %d comes late", x.Position)
		r := rows[x.Commit]
		must(t, r.Kind == api.RowAppended && r.Ticket == x.Ticket && r.Life == x.Life && r.Position == x.Position && r.Block == -1, "%+v is not the commit's row", r)
	}
}

// TestAllFatesComeInRuns: the runs of these tests come to each fate, so that what is held of them is held of all.
func TestAllFatesComeInRuns(t *testing.T) {
	count := map[int]int{}
	ch := chance(5)
	for _, c := range small() {
		for range 25 {
			l, _ := history.Txs(ch.any(t, c, 20+ch.below(120), 15).Rows)
			for _, x := range l {
				count[x.Fate]++
			}
		}
	}
	t.Log(count)
	for fate := history.Open; fate <= history.Lost; fate++ {
		must(t, count[fate] > 3, "fate %d came %d times", fate, count[fate])
	}
}

// TestFatesAreNumbers: 1 to 7, in their order.
func TestFatesAreNumbers(t *testing.T) {
	for i, fate := range []int{history.Open, history.Aborted, history.Dropped, history.Pending, history.Acknowledged, history.Found, history.Lost} {
		must(t, fate == i+1, "fate %d has the number %d", i+1, fate)
	}
}

// TestSpoiltRuns: rows of runs, of which one is changed, is missing, is there twice, or has changed places with another one.
func TestSpoiltRuns(t *testing.T) {
	named(t, small(), func(t *testing.T, c api.Config, ch *chance) {
		refused, taken := 0, 0
		for range 25 {
			rows := ch.any(t, c, 70, 12).Rows
			for range 8 {
				spoilt := slices.Clone(rows)
				i, j := ch.below(len(rows)), ch.below(len(rows))
				switch ch.below(6) {
				case 0:
					spoilt = slices.Delete(spoilt, i, i+1)
				case 1:
					spoilt = slices.Insert(spoilt, j, spoilt[i])
				case 2:
					spoilt[i], spoilt[j] = spoilt[j], spoilt[i]
				default:
					others := otherRows(spoilt[i])
					spoilt[i] = others[ch.below(len(others))]
				}
				modelled(t, spoilt)
				if mayBe(spoilt) {
					taken++
				} else {
					refused++
				}
			}
		}
		must(t, refused > 5 && taken > 5, "%d were refused, %d taken", refused, taken)
	})
}

// TestTxsApart: R3, the rows are not changed and may be written over afterwards; what is answered may be written over and grown.
func TestTxsApart(t *testing.T) {
	named(t, small(), func(t *testing.T, c api.Config, ch *chance) {
		h := ch.any(t, c, 200, 40)
		twin := spaciousHistory(h)
		parts := rowParts(twin.Rows)
		var answer []history.Tx
		untouched(t, parts, func() { answer, _ = history.Txs(twin.Rows) })
		want := allOf(h.Rows)
		spoil(parts)
		must(t, slices.EqualFunc(answer, want, sameTx), "the rows are part of what was answered")
		other, _ := history.Txs(h.Rows)
		apart(t, txParts(answer))
		must(t, slices.EqualFunc(other, want, sameTx), "an answer that is written over changes another one")
		telling(t, h.Rows, true, want)
		// An error ahead leaves nothing behind.
		history.Txs(append(h.Rows[:len(h.Rows):len(h.Rows)], row(api.RowRead, 9, 9)))
		telling(t, h.Rows, true, want)
	})
}

// TestLongRows: rows that no run is long enough for are told soon.
func TestLongRows(t *testing.T) {
	const n = 200000
	rows := []api.Row{begun()}
	for i := range n {
		rows = append(rows, on(row(api.RowWritten, 0, 1), n-i, filled(byte(i))), on(row(api.RowRead, 0, 1), i, filled(2)))
	}
	l, no := history.Txs(rows)
	must(t, no == api.OK && len(l) == 1 && len(l[0].Writes) == n && len(l[0].Reads) == n, "%d", no)
	for i, w := range l[0].Writes {
		must(t, w == api.Image{Block: i + 1, Value: filled(byte(n - i - 1))}, "write %d is %+v", i, w)
	}
	rows = nil
	for i := range n {
		rows = append(rows, begun(), asks(), at(commits(), uint64(i)), crashes())
	}
	rows = append(rows, scans(n/2))
	l, no = history.Txs(rows)
	must(t, no == api.OK && len(l) == n && l[n/2-1].Fate == history.Found && l[n/2].Fate == history.Lost, "%d", no)
	rows = nil
	for i := range n {
		rows = append(rows, begun(), asks(), at(commits(), uint64(i)), crashes(), scans(uint64(i)))
	}
	l, no = history.Txs(rows)
	must(t, no == api.OK && len(l) == n && l[n-1].Fate == history.Lost, "%d", no)
}
