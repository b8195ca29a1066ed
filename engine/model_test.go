package engine_test

import (
	"bytes"
	"hash/crc32"
	"maps"
	"slices"

	"wicket/api"
	"wicket/waits"
)

// block64 is a sector's bytes.
type block64 [64]byte

// number tells n's bytes, the lowest first.
func number(n uint64, size int) []byte {
	b := make([]byte, size)
	for i := range b {
		b[i] = byte(n >> (8 * i))
	}
	return b
}

// numeral tells the number of bytes, the lowest first.
func numeral(b []byte) uint64 {
	var n uint64
	for i, x := range b {
		n |= uint64(x) << (8 * i)
	}
	return n
}

// summed tells 64 bytes: those given, zeros up to byte 59, and their sum, reckoned by another hand than the layers'.
func summed(parts ...[]byte) block64 {
	var all block64
	copy(all[:60], slices.Concat(parts...))
	copy(all[60:], number(uint64(crc32.ChecksumIEEE(all[:60])), 4))
	return all
}

// laidImage tells the bytes of an image's record.
func laidImage(p uint64, block int, v api.Value) block64 {
	return summed([]byte{87, 1, 0, 0}, number(p, 8), number(uint64(block), 4), v[:])
}

// laidCommit tells the bytes of a commit's record.
func laidCommit(p uint64, images int) block64 {
	return summed([]byte{87, 2, 0, 0}, number(p, 8), number(uint64(images), 4))
}

// laidSuper tells the bytes of a superblock.
func laidSuper(c api.Config, tail, life uint64) block64 {
	parts := []byte{byte(c.Blocks), byte(c.LogCap), byte(c.MaxRes), byte(c.High), byte(c.Clients), 0, 0, 0}
	return summed([]byte("WICKET\x01\x00"), parts, number(tail, 8), number(life, 8))
}

// laidHome tells the bytes of a block's home.
func laidHome(block int, v api.Value) block64 {
	return summed([]byte("HOME\x01"), []byte{byte(block)}, make([]byte, 22), v[:])
}

// pending is a write that waits.
type pending struct {
	sector int
	data   block64
}

// held is a committed value that is not home yet.
type held struct {
	value    api.Value
	position uint64
}

// deed is a step whose turn is fixed by the steps ahead of it: its row, as far as it is known by then, and whose transaction it is of.
type deed struct {
	kind   int
	client int
	block  int
	value  api.Value
	count  int
	target uint64
	copied map[int]held // what a checkpointer has chosen
}

// person is a client's transaction.
type person struct {
	state    int
	ticket   uint64
	set      []int
	locked   int
	writes   map[int]api.Value
	in       bool // it has room reserved
	appended int
	commit   uint64
}

// model is the whole by another hand: the document's words about a run, on plain lists and on the disk's bytes.
type model struct {
	c        api.Config
	programs [][]api.Op
	places   []int
	durable  []block64
	waiting  []pending
	life     uint64
	recovers bool
	redo     []deed // a recovery's steps, but for the reading; the reading, if there are none

	// All that follows is a life's.
	persons   []person
	tickets   uint64
	line      []int   // clients
	queues    [][]int // clients, by block
	tail, end uint64
	acked     uint64 // the position behind the last acknowledged commit; 0, if there is none
	cached    map[int]held
	asked     []int
	group     []deed
	round     []deed
}

// fresh tells the model of a new disk.
func fresh(c api.Config, programs [][]api.Op) *model {
	m := &model{c: c, programs: programs, places: make([]int, c.Clients), durable: []block64{laidSuper(c, 0, 1)}}
	for b := range c.Blocks {
		m.durable = append(m.durable, laidHome(b, api.Value{}))
	}
	m.durable = append(m.durable, make([]block64, c.LogCap)...)
	m.begin(0, 1)
	return m
}

// opened tells the model of a disk's durable bytes, ahead of a recovery.
func opened(c api.Config, image []byte, programs [][]api.Op) *model {
	m := &model{c: c, programs: programs, places: make([]int, c.Clients), recovers: true, persons: make([]person, c.Clients)}
	for s := range slices.Chunk(image, 64) {
		m.durable = append(m.durable, block64(s))
	}
	m.life = numeral(image[24:32])
	return m
}

// begin begins a life.
func (m *model) begin(tail, life uint64) {
	m.life, m.recovers, m.redo = life, false, nil
	m.persons, m.queues = make([]person, m.c.Clients), make([][]int, m.c.Blocks)
	m.tickets, m.tail, m.end, m.acked = 0, tail, tail, 0
	m.line, m.asked, m.group, m.round = nil, nil, nil, nil
	m.cached = map[int]held{}
}

// copied tells another model with the same.
func (m *model) copied() *model {
	twin := *m
	twin.places, twin.durable, twin.waiting = slices.Clone(m.places), slices.Clone(m.durable), slices.Clone(m.waiting)
	twin.redo, twin.group, twin.round = slices.Clone(m.redo), slices.Clone(m.group), slices.Clone(m.round)
	twin.line, twin.asked = slices.Clone(m.line), slices.Clone(m.asked)
	twin.cached = maps.Clone(m.cached)
	twin.persons = slices.Clone(m.persons)
	for n := range twin.persons {
		twin.persons[n].writes = maps.Clone(twin.persons[n].writes)
	}
	twin.queues = slices.Clone(m.queues)
	for b := range twin.queues {
		twin.queues[b] = slices.Clone(twin.queues[b])
	}
	return &twin
}

// read tells a sector: its newest write, waiting or not.
func (m *model) read(n int) block64 {
	for _, w := range slices.Backward(m.waiting) {
		if w.sector == n {
			return w.data
		}
	}
	return m.durable[n]
}

// write writes a sector; it waits.
func (m *model) write(n int, data block64) {
	m.waiting = append(m.waiting, pending{n, data})
}

// settle makes those writes durable whose numbers stay; how many had been waiting.
func (m *model) settle(stays func(int) bool) int {
	n := len(m.waiting)
	for i, w := range m.waiting {
		if stays(i) {
			m.durable[w.sector] = w.data
		}
	}
	m.waiting = nil
	return n
}

// flush makes all writes durable; how many had been waiting.
func (m *model) flush() int {
	return m.settle(func(int) bool { return true })
}

// value tells the store's value of a block.
func (m *model) value(block int) api.Value {
	if v, ok := m.cached[block]; ok {
		return v.value
	}
	home := m.read(1 + block)
	return api.Value(home[28:60])
}

// store tells all values; none in a recovery.
func (m *model) store() []api.Value {
	var l []api.Value
	for b := range m.c.Blocks {
		if !m.recovers {
			l = append(l, m.value(b))
		}
	}
	return l
}

// room tells Used and Reserved.
func (m *model) room() (used, reserved int) {
	if m.recovers {
		return 0, 0
	}
	for _, p := range m.persons {
		if p.in {
			reserved += len(p.set) + 1 - p.appended
		}
	}
	return int(m.end - m.tail), reserved
}

// fits tells whether there is a first one in the line that there is room for.
func (m *model) fits() bool {
	used, reserved := m.room()
	return len(m.line) > 0 && used+reserved+len(m.persons[m.line[0]].set)+1 <= m.c.LogCap
}

// waits tells all edges.
func (m *model) waits() []waits.Edge {
	var l []waits.Edge
	if m.recovers {
		return nil
	}
	ticket := func(n int) uint64 { return m.persons[n].ticket }
	for i := range m.line[min(1, len(m.line)):] {
		l = append(l, waits.Edge{From: ticket(m.line[i+1]), To: ticket(m.line[i]), Why: waits.Line, Block: -1})
	}
	if len(m.line) > 0 && !m.fits() {
		for t := uint64(1); t <= m.tickets; t++ {
			if slices.ContainsFunc(m.persons, func(p person) bool { return p.in && p.ticket == t }) {
				l = append(l, waits.Edge{From: ticket(m.line[0]), To: t, Why: waits.Room, Block: -1})
			}
		}
	}
	for b, q := range m.queues {
		for i := range q[min(1, len(q)):] {
			l = append(l, waits.Edge{From: ticket(q[i+1]), To: ticket(q[i]), Why: waits.Lock, Block: b})
		}
	}
	return l
}

// enabled tells whether an actor is.
func (m *model) enabled(n int) bool {
	clients := m.c.Clients
	switch {
	case m.recovers:
		return n == clients+2
	case n == clients:
		return len(m.group) > 0 || len(m.asked) > 0
	case n == clients+1:
		used, _ := m.room()
		return len(m.round) > 0 || m.acked > m.tail && (used >= m.c.High || len(m.line) > 0 && !m.fits())
	case n < 0 || n > clients:
		return false
	}
	switch p := m.persons[n]; p.state {
	case api.None:
		return m.places[n] < len(m.programs[n])
	case api.Waiting:
		return m.line[0] == n && m.fits()
	case api.Locking:
		return m.queues[p.set[p.locked]][0] == n
	default:
		return p.state == api.Active
	}
}

// pick does what a pick asks for.
func (m *model) pick(p api.Pick) (api.Row, bool) {
	if p.Crash {
		return m.crash(p.Keep), true
	}
	if !m.enabled(p.Actor) {
		return api.Row{}, false
	}
	var row api.Row
	switch p.Actor - m.c.Clients {
	case 0:
		row = m.daemon()
	case 1:
		row = m.checkpoint()
	case 2:
		row = m.recover()
	default:
		row = m.client(p.Actor)
	}
	row.Actor, row.Life = p.Actor, m.life
	return row, true
}

// crash takes all but the disk away.
func (m *model) crash(keep []int) api.Row {
	for n := range m.persons {
		if m.persons[n].state != api.None {
			rest := m.programs[n][m.places[n]:]
			next := slices.IndexFunc(rest, func(op api.Op) bool { return op.Kind == api.OpBegin })
			if next < 0 {
				next = len(rest)
			}
			m.places[n] += next
		}
	}
	m.persons, m.recovers, m.redo = make([]person, m.c.Clients), true, nil
	n := m.settle(func(i int) bool { return slices.Contains(keep, i) })
	return api.Row{Kind: api.RowCrashed, Life: m.life, Actor: -1, Block: -1, Count: n}
}

// form tells a set's form, or why it has none.
func form(c api.Config, set []int) ([]int, api.Errno) {
	if len(set) == 0 {
		return nil, api.ErrEmpty
	}
	seen := map[int]bool{}
	for _, b := range set {
		if b < 0 || b >= c.Blocks {
			return nil, api.ErrBlock
		}
		seen[b] = true
	}
	if len(seen) > c.MaxRes {
		return nil, api.ErrMany
	}
	return slices.Sorted(maps.Keys(seen)), api.OK
}

// client does a client's step.
func (m *model) client(n int) api.Row {
	p := &m.persons[n]
	switch p.state {
	case api.Waiting:
		m.line = m.line[1:]
		p.state, p.in, p.writes = api.Locking, true, map[int]api.Value{}
		for _, b := range p.set {
			m.queues[b] = append(slices.Clone(m.queues[b]), n)
		}
		return api.Row{Kind: api.RowEntered, Ticket: p.ticket, Block: -1}
	case api.Locking:
		row := api.Row{Kind: api.RowLocked, Ticket: p.ticket, Block: p.set[p.locked]}
		p.locked++
		if p.locked == len(p.set) {
			p.state = api.Active
		}
		return row
	}
	if m.places[n] == len(m.programs[n]) {
		return m.abort(n)
	}
	op := m.programs[n][m.places[n]]
	m.places[n]++
	if p.state == api.None {
		return m.outside(n, op)
	}
	return m.inside(n, op)
}

// outside does an operation in None.
func (m *model) outside(n int, op api.Op) api.Row {
	switch op.Kind {
	case api.OpBegin:
		set, no := form(m.c, op.Set)
		if no != api.OK {
			return api.Row{Kind: api.RowRejected, Block: -1, Err: no}
		}
		m.tickets++
		m.persons[n] = person{state: api.Waiting, ticket: m.tickets, set: set}
		m.line = append(slices.Clone(m.line), n)
		return api.Row{Kind: api.RowBegun, Ticket: m.tickets, Block: -1, Set: set}
	case api.OpRead, api.OpWrite:
		return api.Row{Kind: api.RowRefused, Block: op.Block, Err: api.ErrState}
	}
	return api.Row{Kind: api.RowRefused, Block: -1, Err: api.ErrState}
}

// inside does an operation in Active.
func (m *model) inside(n int, op api.Op) api.Row {
	p := &m.persons[n]
	row := api.Row{Ticket: p.ticket, Block: -1}
	switch op.Kind {
	case api.OpBegin:
		row.Kind, row.Err = api.RowRefused, api.ErrOpen
		return row
	case api.OpCommit:
		p.state = api.Committing
		m.asked = append(slices.Clone(m.asked), n)
		row.Kind = api.RowRequested
		return row
	case api.OpAbort:
		return m.abort(n)
	}
	row.Block = op.Block
	if !slices.Contains(p.set, op.Block) {
		row.Kind, row.Err = api.RowRefused, api.ErrOutside
		return row
	}
	if op.Kind == api.OpWrite {
		p.writes[op.Block] = op.Value
		row.Kind, row.Value = api.RowWritten, op.Value
		return row
	}
	own, written := p.writes[op.Block]
	row.Kind, row.Value = api.RowRead, own
	if !written {
		row.Value = m.value(op.Block)
	}
	return row
}

// abort gives a transaction up.
func (m *model) abort(n int) api.Row {
	row := api.Row{Kind: api.RowAborted, Ticket: m.persons[n].ticket, Block: -1}
	m.leave(n)
	return row
}

// leave ends a transaction: out of all queues, and in None.
func (m *model) leave(n int) {
	for b, q := range m.queues {
		m.queues[b] = slices.DeleteFunc(slices.Clone(q), func(other int) bool { return other == n })
	}
	m.persons[n] = person{}
}

// daemon does the daemon's step. All that follows on a taken group is laid out when it is taken.
func (m *model) daemon() api.Row {
	if len(m.group) == 0 {
		var done []deed
		for _, n := range m.asked {
			writes := m.persons[n].writes
			for _, b := range slices.Sorted(maps.Keys(writes)) {
				m.group = append(m.group, deed{kind: api.RowAppended, client: n, block: b, value: writes[b]})
			}
			m.group = append(m.group, deed{kind: api.RowAppended, client: n, block: -1, count: len(writes)})
			done = append(done, deed{kind: api.RowDone, client: n, block: -1, count: len(writes)})
		}
		m.group = slices.Concat(m.group, []deed{{kind: api.RowFlushed, block: -1}}, done)
		row := api.Row{Kind: api.RowTaken, Block: -1, Count: len(m.asked)}
		m.asked = nil
		return row
	}
	d := m.group[0]
	m.group = m.group[1:]
	p := &m.persons[d.client]
	row := api.Row{Kind: d.kind, Ticket: p.ticket, Block: d.block, Value: d.value, Count: d.count}
	switch d.kind {
	case api.RowFlushed:
		row.Ticket, row.Count = 0, m.flush()
	case api.RowAppended:
		row.Position = m.end
		m.append(p, d)
	case api.RowDone:
		row.Position = p.commit
		for b, v := range p.writes {
			m.cached[b] = held{v, p.commit}
		}
		m.acked = p.commit + 1
		m.leave(d.client)
	}
	return row
}

// append writes a record.
func (m *model) append(p *person, d deed) {
	data := laidImage(m.end, max(d.block, 0), d.value)
	p.appended++
	if d.block < 0 {
		data = laidCommit(m.end, d.count)
		p.commit, p.in = m.end, false
	}
	m.write(m.slot(m.end), data)
	m.end++
}

// slot tells the sector of a position.
func (m *model) slot(p uint64) int {
	return 1 + m.c.Blocks + int(p%uint64(m.c.LogCap))
}

// checkpoint does the checkpointer's step. All that follows on a choice is laid out with it.
func (m *model) checkpoint() api.Row {
	if len(m.round) == 0 {
		for _, b := range slices.Sorted(maps.Keys(m.cached)) {
			m.round = append(m.round, deed{kind: api.RowCarried, block: b, value: m.cached[b].value})
		}
		m.round = append(m.round,
			deed{kind: api.RowFlushed, block: -1},
			deed{kind: api.RowMarked, block: -1, target: m.acked},
			deed{kind: api.RowFreed, block: -1, target: m.acked, copied: maps.Clone(m.cached)})
		return api.Row{Kind: api.RowChosen, Block: -1, Position: m.acked, Count: len(m.cached)}
	}
	d := m.round[0]
	m.round = m.round[1:]
	row := api.Row{Kind: d.kind, Block: d.block, Value: d.value, Position: d.target}
	switch d.kind {
	case api.RowCarried:
		m.write(1+d.block, laidHome(d.block, d.value))
	case api.RowFlushed:
		row.Count = m.flush()
	case api.RowMarked:
		m.write(0, laidSuper(m.c, d.target, m.life))
	case api.RowFreed:
		m.flush()
		row.Count = int(d.target - m.tail)
		m.tail = d.target
		for b, v := range d.copied {
			if m.cached[b].position == v.position {
				delete(m.cached, b)
			}
		}
	}
	return row
}

// recover does a recovery's step. All that follows on the reading is laid out by it.
func (m *model) recover() api.Row {
	if len(m.redo) == 0 {
		return m.scan()
	}
	d := m.redo[0]
	m.redo = m.redo[1:]
	row := api.Row{Kind: d.kind, Block: d.block, Value: d.value, Position: d.target}
	switch d.kind {
	case api.RowCarried:
		m.write(1+d.block, laidHome(d.block, d.value))
	case api.RowFlushed:
		row.Count = m.flush()
	case api.RowMarked:
		m.write(0, laidSuper(m.c, d.target, m.life+1))
	case api.RowLives:
		m.flush()
		m.begin(d.target, m.life+1)
	}
	return row
}

// scan reads the log from the superblock's tail on.
func (m *model) scan() api.Row {
	first := m.read(0)
	tail := numeral(first[16:24])
	m.life = numeral(first[24:32])
	newest, come := map[int]api.Value{}, map[int]api.Value{}
	end, found, last := tail, 0, -1
	for p := tail; p < tail+uint64(m.c.LogCap); p++ {
		b := m.read(m.slot(p))
		block, v := int(numeral(b[12:16])), api.Value(b[16:48])
		if b == laidCommit(p, len(come)) {
			maps.Copy(newest, come)
			end, last, come = p+1, -1, map[int]api.Value{}
			found++
			continue
		}
		if b != laidImage(p, block, v) || block >= m.c.Blocks || block <= last || len(come) == m.c.MaxRes {
			break
		}
		come[block], last = v, block
	}
	for _, b := range slices.Sorted(maps.Keys(newest)) {
		m.redo = append(m.redo, deed{kind: api.RowCarried, block: b, value: newest[b]})
	}
	next := end + uint64(m.c.LogCap)
	m.redo = append(m.redo,
		deed{kind: api.RowFlushed, block: -1},
		deed{kind: api.RowMarked, block: -1, target: next},
		deed{kind: api.RowLives, block: -1, target: next})
	return api.Row{Kind: api.RowScanned, Block: -1, Position: end, Count: found}
}

// image tells the durable bytes of all sectors.
func (m *model) image() []byte {
	var l [][]byte
	for i := range m.durable {
		l = append(l, m.durable[i][:])
	}
	return bytes.Join(l, nil)
}
