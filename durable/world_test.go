package durable_test

import (
	"fmt"
	"slices"
	"testing"

	"wicket/api"
	"wicket/durable"
	"wicket/engine"
	"wicket/history"
)

// must ends a test in which something does not hold.
func must(t *testing.T, holds bool, what string, args ...any) {
	if !holds {
		t.Helper() // not ahead of it, as it costs more than most of what is asked
		t.Fatalf(what, args...)
	}
}

// chance tells numbers that look like chance and are the same in each run.
type chance uint64

func (c *chance) next() uint64 {
	*c ^= *c << 13
	*c ^= *c >> 7
	*c ^= *c << 17
	return uint64(*c)
}

// below tells one of 0 to n - 1.
func (c *chance) below(n int) int {
	return int(c.next() % uint64(n))
}

// oneIn tells true once in n times.
func (c *chance) oneIn(n int) bool {
	return c.below(n) == 0
}

// shuffled tells 0 to n - 1 in any order.
func (c *chance) shuffled(n int) []int {
	l := make([]int, n)
	for i := range l {
		j := c.below(i + 1)
		l[i], l[j] = l[j], i
	}
	return l
}

// some tells some of 0 to n - 1, in any order.
func (c *chance) some(n int) []int {
	return c.shuffled(n)[:c.below(n+1)]
}

// few tells one of few values, so that many are alike.
func (c *chance) few() api.Value {
	return []api.Value{zero, a, b, filled(9)}[c.below(4)]
}

// filled tells a value whose bytes all are one.
func filled(n byte) api.Value {
	var v api.Value
	for i := range v {
		v[i] = n
	}
	return v
}

// numbered tells a value that no other number has; of 0 zeros.
func numbered(n int) api.Value {
	var v api.Value
	for i := range 8 {
		v[24+i] = byte(n >> (8 * i))
	}
	return v
}

// uniques tells values of which no two are alike, and none is zeros.
func uniques() func() api.Value {
	n := 0
	return func() api.Value {
		n++
		return numbered(n)
	}
}

// others tells values that are not a value, near it and far.
func others(v api.Value) []api.Value {
	var l []api.Value
	for _, i := range []int{0, 1, 15, 16, 30, 31} {
		near := v
		near[i] ^= 1
		l = append(l, near)
		near[i] ^= 0x81
		l = append(l, near)
	}
	for _, w := range []api.Value{zero, a, numbered(1)} {
		if w != v {
			l = append(l, w)
		}
	}
	return l
}

var (
	zero    api.Value
	a, b, c = filled(1), filled(2), filled(3)
)

// config tells a configuration of its parts, in their order.
func config(blocks, logCap, maxRes, high, clients int) api.Config {
	return api.Config{Blocks: blocks, LogCap: logCap, MaxRes: maxRes, High: high, Clients: clients}
}

// two is the configuration of the chapter's examples; eight and wide have as many clients as may be, and configs tells small and large ones.
var (
	two   = config(2, 4, 2, 4, 1)
	eight = config(4, 8, 3, 8, api.MaxClients)
	wide  = config(api.MaxBlocks, api.MaxLog, api.MaxRes, api.MaxLog, api.MaxClients)
)

func configs() []api.Config {
	return []api.Config{
		config(1, 2, 1, 1, 1), config(1, 2, 1, 2, 3), config(2, 3, 2, 3, 2), config(2, 4, 2, 2, 3), config(3, 4, 2, 4, 4),
		config(4, 5, 3, 3, 2), config(4, 7, 3, 6, 5), config(3, 9, 3, 1, 8), config(6, 8, 5, 8, 3),
		config(64, 64, 16, 64, 8), config(64, 17, 16, 9, 8), config(16, 64, 16, 40, 3), config(64, 2, 1, 1, 8),
	}
}

// none tells the finding where nothing was found; gone, order and stale tell the others.
func none() durable.Finding {
	return durable.Finding{Good: true, Row: -1, Tx: -1, Block: -1}
}
func gone(row, tx int) durable.Finding {
	return durable.Finding{What: durable.Gone, Row: row, Tx: tx, Block: -1}
}
func order(row, tx int) durable.Finding {
	return durable.Finding{What: durable.Order, Row: row, Tx: tx, Block: -1}
}
func stale(row, tx, block int) durable.Finding {
	return durable.Finding{What: durable.Stale, Row: row, Tx: tx, Block: block}
}

// read and write tell operations; of a Read the value is what its row tells.
func read(block int, v api.Value) api.Op {
	return api.Op{Kind: api.OpRead, Block: block, Value: v}
}
func write(block int, v api.Value) api.Op {
	return api.Op{Kind: api.OpWrite, Block: block, Value: v}
}

// row tells a client's row; its block is -1.
func row(kind, actor int, ticket uint64) api.Row {
	return api.Row{Kind: kind, Life: 1, Actor: actor, Ticket: ticket, Block: -1}
}

// on tells a row with another block and a value.
func on(r api.Row, block int, v api.Value) api.Row {
	r.Block, r.Value = block, v
	return r
}

// at tells a row with another position.
func at(r api.Row, position uint64) api.Row {
	r.Position = position
	return r
}

// crash, scan and carried tell the rows of a crash, of a reading with its end, and of a home that is written by an actor.
func crash() api.Row          { return row(api.RowCrashed, -1, 0) }
func scan(end uint64) api.Row { return at(row(api.RowScanned, 10, 0), end) }
func carried(actor, block int, v api.Value) api.Row {
	return on(row(api.RowCarried, actor, 0), block, v)
}

// healer is recovery's actor of a configuration.
func healer(of api.Config) int { return of.Clients + 2 }

// begun tells the rows of a transaction up to its last access.
func begun(client int, ticket uint64, ops ...api.Op) []api.Row {
	first := row(api.RowBegun, client, ticket)
	first.Set = []int{0, 1}
	rows := []api.Row{first}
	for _, op := range ops {
		kind := api.RowRead
		if op.Kind == api.OpWrite {
			kind = api.RowWritten
		}
		rows = append(rows, on(row(kind, client, ticket), op.Block, op.Value))
	}
	return rows
}

// asks, commits and done tell rows of a transaction's end.
func asks(client int, ticket uint64) api.Row { return row(api.RowRequested, client, ticket) }
func commits(ticket, position uint64) api.Row {
	return at(row(api.RowAppended, 8, ticket), position)
}
func done(ticket, position uint64) api.Row {
	return at(row(api.RowDone, 8, ticket), position)
}

// deed is what a transaction does and what becomes of it.
type deed struct {
	fate     int
	position uint64
	ops      []api.Op
}

// acked, found and lost tell deeds that are written at a position.
func acked(position uint64, ops ...api.Op) deed { return deed{history.Acknowledged, position, ops} }
func found(position uint64, ops ...api.Op) deed { return deed{history.Found, position, ops} }
func lost(position uint64, ops ...api.Op) deed  { return deed{history.Lost, position, ops} }

// rows tells all its rows, with a crash and a reading if its fate needs them.
func (d deed) rows(client int, ticket uint64) []api.Row {
	rows := begun(client, ticket, d.ops...)
	asked := append(slices.Clone(rows), asks(client, ticket))
	switch d.fate {
	case history.Aborted:
		return append(rows, row(api.RowAborted, client, ticket))
	case history.Dropped:
		return append(asked, crash())
	case history.Pending:
		return append(asked, commits(ticket, d.position))
	case history.Acknowledged:
		return append(asked, commits(ticket, d.position), row(api.RowFlushed, 8, 0), done(ticket, d.position))
	case history.Found:
		return append(asked, commits(ticket, d.position), crash(), scan(d.position+1))
	case history.Lost:
		return append(asked, commits(ticket, d.position), crash(), scan(d.position))
	}
	return rows
}

// rowsOf tells the rows of deeds one behind the other, each of a client of its own as long as there are some.
func rowsOf(deeds ...deed) []api.Row {
	var rows []api.Row
	for i, d := range deeds {
		rows = append(rows, d.rows(i%api.MaxClients, uint64(i+1))...)
	}
	return rows
}

// fates tells all of them.
func fates() []int {
	return []int{history.Open, history.Aborted, history.Dropped, history.Pending, history.Acknowledged, history.Found, history.Lost}
}

// permutations goes through all orders of 0 to n - 1.
func permutations(n int, each func([]int)) {
	var grow func(order []int)
	grow = func(order []int) {
		if len(order) == n {
			each(slices.Clone(order))
		}
		for i := range n {
			if !slices.Contains(order, i) {
				grow(append(order[:len(order):len(order)], i))
			}
		}
	}
	grow(nil)
}

// world says which rows are made by chance.
type world struct {
	of      api.Config
	crashes int  // once in so many rows; 0: never
	twice   bool // a position may come twice
	rising  bool // positions rise, and a reading ends behind all that were acknowledged
	values  func() api.Value
}

// client is what the maker of rows knows of one.
type client struct {
	ticket    uint64
	asked     bool
	committed bool
	position  uint64
}

// maker makes rows which history.Txs takes, though hardly a run has them.
type maker struct {
	*chance
	world
	rows      []api.Row
	now       []client
	ticket    uint64
	positions []int
	next      uint64 // behind the greatest position so far
	safe      uint64 // behind the greatest one that was acknowledged
}

// rows tells so many rows.
func (c *chance) rows(w world, n int) []api.Row {
	m := &maker{chance: c, world: w, now: make([]client, w.of.Clients), positions: c.shuffled(2*n + 20)}
	for len(m.rows) < n {
		switch {
		case w.crashes > 0 && c.oneIn(w.crashes):
			m.rows = append(m.rows, crash())
			clear(m.now)
			m.ticket = 0
		case w.crashes > 0 && c.oneIn(w.crashes/2+1):
			m.rows = append(m.rows, scan(m.end()))
		case c.oneIn(6):
			m.rows = append(m.rows, c.noise(w))
		default:
			m.step(c.below(w.of.Clients))
		}
	}
	return m.rows
}

// end tells where a reading ends.
func (m *maker) end() uint64 {
	if m.rising {
		return m.safe + uint64(m.below(int(m.next-m.safe)+2))
	}
	return uint64(m.below(len(m.positions)))
}

// noise tells a row of which history asks nothing, though it looks as if it were a client's.
func (c *chance) noise(w world) api.Row {
	if c.oneIn(2) {
		return carried(c.below(w.of.Clients+4), c.below(w.of.Blocks), w.values())
	}
	kinds := []int{0, api.RowTaken, api.RowFlushed, api.RowChosen, api.RowMarked, api.RowFreed, api.RowLives, 99}
	r := row(kinds[c.below(len(kinds))], c.below(w.of.Clients+3), uint64(c.below(4)))
	return at(on(r, c.below(w.of.Blocks+2)-1, w.values()), uint64(c.below(30)))
}

// step makes a row of a client's transaction.
func (m *maker) step(n int) {
	x := &m.now[n]
	own := func(kind int) api.Row { return row(kind, n, x.ticket) }
	var r api.Row
	switch {
	case x.ticket == 0 && m.oneIn(8):
		r = own([]int{api.RowRejected, api.RowRefused}[m.below(2)])
	case x.ticket == 0:
		m.ticket++
		x.ticket = m.ticket
		r = own(api.RowBegun)
		r.Set = m.some(4)
	case x.committed:
		r = done(x.ticket, x.position)
		m.safe = max(m.safe, x.position+1)
		*x = client{}
	case x.asked && m.oneIn(3):
		r = at(on(row(api.RowAppended, m.of.Clients, x.ticket), m.below(m.of.Blocks), m.values()), uint64(m.below(50)))
	case x.asked:
		x.committed, x.position = true, m.place()
		m.next = max(m.next, x.position+1)
		r = commits(x.ticket, x.position)
	default:
		r = m.act(x, own)
	}
	m.rows = append(m.rows, r)
}

// act makes a row of a transaction that has not asked.
func (m *maker) act(x *client, own func(int) api.Row) api.Row {
	switch m.below(12) {
	case 0, 1:
		x.asked = true
		return own(api.RowRequested)
	case 2:
		if m.oneIn(2) {
			r := own(api.RowAborted)
			*x = client{}
			return r
		}
		return own(api.RowEntered)
	case 3:
		return on(own([]int{api.RowRefused, api.RowLocked}[m.below(2)]), m.below(m.of.Blocks+2)-1, m.values())
	case 4, 5, 6, 7:
		return on(own(api.RowRead), m.below(m.of.Blocks), m.values())
	}
	return on(own(api.RowWritten), m.below(m.of.Blocks), m.values())
}

// place tells a position: no other one's, but where one may come twice.
func (m *maker) place() uint64 {
	if m.twice && m.oneIn(4) {
		return uint64(m.below(6))
	}
	if m.rising {
		return m.next + uint64(m.below(3))
	}
	n := m.positions[0]
	m.positions = m.positions[1:]
	return uint64(n)
}

// named runs a test of each configuration.
func named(t *testing.T, test func(t *testing.T, of api.Config, ch *chance)) {
	for i, of := range configs() {
		t.Run(fmt.Sprint(of), func(t *testing.T) {
			t.Parallel()
			ch := chance(i*1000003 + 77)
			test(t, of, &ch)
		})
	}
}

// program tells n operations: transactions that commit, abort or are left, rejected and refused ones among them.
func (c *chance) program(of api.Config, n int, value func() api.Value) []api.Op {
	var l []api.Op
	for len(l) < n {
		set := c.set(of)
		l = append(l, api.Op{Kind: api.OpBegin, Set: set})
		for range c.below(6) {
			block := c.below(of.Blocks)
			if len(set) > 0 && !c.oneIn(9) {
				block = set[c.below(len(set))]
			}
			if c.below(7) < 3 {
				l = append(l, read(block, zero))
			} else {
				l = append(l, write(block, value()))
			}
		}
		switch c.below(9) {
		case 0:
			l = append(l, api.Op{Kind: api.OpAbort})
		case 1: // what comes next is met within this one
		default:
			l = append(l, api.Op{Kind: api.OpCommit})
		}
	}
	return l[:n]
}

// set tells a declared set; now and then one that is rejected.
func (c *chance) set(of api.Config) []int {
	switch c.below(12) {
	case 0:
		return nil
	case 1:
		return []int{0, of.Blocks}
	}
	var l []int
	for range 1 + c.below(of.MaxRes) {
		l = append(l, c.below(of.Blocks))
	}
	return l
}

// run plays picks on a new engine, and looks behind each of them; crashes come once in so many picks (0: never).
func (c *chance) run(t *testing.T, of api.Config, picks, crashes int, value func() api.Value, look func(e *engine.Engine, rows []api.Row)) []api.Row {
	t.Helper()
	programs := make([][]api.Op, of.Clients)
	for n := range programs {
		programs[n] = c.program(of, min(10+picks/of.Clients, api.MaxProgram), value)
	}
	e, no := engine.New(of, programs)
	must(t, no == api.OK, "engine.New(%v) answers %d", of, no)
	var rows []api.Row
	for range picks {
		p := api.Pick{Actor: c.below(e.Actors())}
		for tries := 0; tries < 5 && !e.Enabled(p.Actor); tries++ {
			p.Actor = c.below(e.Actors())
		}
		if crashes > 0 && c.oneIn(crashes) {
			p = api.Pick{Crash: true, Keep: c.some(len(e.Disk().Waiting()))}
		}
		if r, ok := e.Pick(p); ok {
			rows = append(rows, r)
		}
		if look != nil {
			look(e, rows)
		}
	}
	return rows
}
