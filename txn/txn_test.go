package txn_test

import (
	"maps"
	"math"
	"slices"
	"testing"

	"wicket/admit"
	"wicket/api"
	"wicket/lock"
	"wicket/txn"
)

// chance tells numbers that look like chance and are the same in each run.
type chance uint64

func (c *chance) next() uint64 {
	*c ^= *c << 13
	*c ^= *c >> 7
	*c ^= *c << 17
	return uint64(*c)
}

// below tells one of 0 to n - 1.
func (c *chance) below(n int) int {
	return int(c.next() % uint64(n))
}

// value tells one of a few values, the zeros among them, or one that hardly any other is like.
func (c *chance) value() api.Value {
	var v api.Value
	switch c.below(4) {
	case 0:
	case 1:
		v[c.below(len(v))] = byte(1 + c.below(2))
	default:
		for i := range v {
			v[i] = byte(c.next() >> 20)
		}
	}
	return v
}

// filled tells a value whose bytes all are one.
func filled(n byte) api.Value {
	var v api.Value
	for i := range v {
		v[i] = n
	}
	return v
}

// client is a transaction by another hand: all that it has ever written since its Begin.
type client struct {
	state  int
	ticket uint64
	writes []api.Image
}

// model is a line, its locks and their transactions by another hand, by the words of the document's section 'A run'.
type model struct {
	c       api.Config
	given   uint64           // tickets so far
	sets    map[uint64][]int // of all tickets that were ever given
	line    []uint64
	left    map[uint64]int // of those that are in
	used    int
	laid    []uint64
	locked  map[uint64][]int // of those that are laid
	clients []client
	store   map[int]api.Value
}

func (m *model) copy() *model {
	twin := *m
	twin.sets = maps.Clone(m.sets)
	twin.line = slices.Clone(m.line)
	twin.left = maps.Clone(m.left)
	twin.laid = slices.Clone(m.laid)
	twin.locked = map[uint64][]int{}
	for n, l := range m.locked {
		twin.locked[n] = slices.Clone(l)
	}
	twin.clients = slices.Clone(m.clients)
	for i := range twin.clients {
		twin.clients[i].writes = slices.Clone(m.clients[i].writes)
	}
	twin.store = maps.Clone(m.store)
	return &twin
}

func (m *model) reserved() int {
	n := 0
	for _, left := range m.left {
		n += left
	}
	return n
}

func (m *model) fits() bool {
	return len(m.line) > 0 && m.used+m.reserved()+len(m.sets[m.line[0]])+1 <= m.c.LogCap
}

func (m *model) queue(block int) []uint64 {
	var q []uint64
	for _, n := range m.laid {
		if slices.Contains(m.sets[n], block) {
			q = append(q, n)
		}
	}
	return q
}

// lacks tells the blocks that a ticket has not locked, rising.
func (m *model) lacks(ticket uint64) []int {
	var l []int
	for _, b := range m.sets[ticket] {
		if !slices.Contains(m.locked[ticket], b) {
			l = append(l, b)
		}
	}
	return l
}

func (m *model) ready(ticket uint64) bool {
	l := m.lacks(ticket)
	return slices.Contains(m.laid, ticket) && len(l) > 0 && m.queue(l[0])[0] == ticket
}

func (m *model) images(i int) []api.Image {
	var l []api.Image
	for b := range m.c.Blocks {
		if v, written := m.written(i, b); written {
			l = append(l, api.Image{Block: b, Value: v})
		}
	}
	return l
}

// written tells what a client has written last of a block.
func (m *model) written(i, block int) (api.Value, bool) {
	w := m.clients[i].writes
	for n := len(w) - 1; n >= 0; n-- {
		if w[n].Block == block {
			return w[n].Value, true
		}
	}
	return api.Value{}, false
}

func (m *model) enabled(i int, more bool) bool {
	c := m.clients[i]
	return c.state == api.None && more ||
		c.state == api.Waiting && m.line[0] == c.ticket && m.fits() ||
		c.state == api.Locking && m.ready(c.ticket) ||
		c.state == api.Active
}

// rejects tells why a set is none that may be declared.
func (m *model) rejects(set []int) ([]int, api.Errno) {
	var form []int
	for b := range m.c.Blocks {
		if slices.Contains(set, b) {
			form = append(form, b)
		}
	}
	if len(set) == 0 {
		return nil, api.ErrEmpty
	}
	for _, b := range set {
		if !slices.Contains(form, b) {
			return nil, api.ErrBlock
		}
	}
	if len(form) > m.c.MaxRes {
		return nil, api.ErrMany
	}
	return form, api.OK
}

// step tells what a step of a client answers, and does it.
func (m *model) step(i int, op *api.Op) (api.Row, bool, api.Errno) {
	if !m.enabled(i, op != nil) {
		return api.Row{}, false, api.ErrIdle
	}
	c := &m.clients[i]
	row := api.Row{Actor: i, Ticket: c.ticket, Block: -1}
	switch {
	case c.state == api.Waiting:
		m.line = m.line[1:]
		m.left[c.ticket] = len(m.sets[c.ticket]) + 1
		m.laid = append(m.laid, c.ticket)
		c.state = api.Locking
		row.Kind = api.RowEntered
		return row, false, api.OK
	case c.state == api.Locking:
		row.Kind, row.Block = api.RowLocked, m.lacks(c.ticket)[0]
		m.locked[c.ticket] = append(m.locked[c.ticket], row.Block)
		if len(m.lacks(c.ticket)) == 0 {
			c.state = api.Active
		}
		return row, false, api.OK
	case op == nil || op.Kind == 5 && c.state == api.Active:
		delete(m.left, c.ticket)
		m.drop(c.ticket)
		*c = client{}
		row.Kind = api.RowAborted
		return row, op != nil, api.OK
	case op.Kind < 1 || op.Kind > 5:
		row.Kind, row.Err = api.RowRefused, api.ErrInput
	case c.state == api.None:
		m.outside(i, op, &row)
	default:
		m.inside(i, op, &row)
	}
	return row, true, api.OK
}

// outside does an operation in None.
func (m *model) outside(i int, op *api.Op, row *api.Row) {
	c := &m.clients[i]
	if op.Kind != api.OpBegin {
		row.Kind, row.Err = api.RowRefused, api.ErrState
		if op.Kind == api.OpRead || op.Kind == api.OpWrite {
			row.Block = op.Block
		}
		return
	}
	form, e := m.rejects(op.Set)
	if e != api.OK {
		row.Kind, row.Err = api.RowRejected, e
		return
	}
	m.given++
	m.sets[m.given] = form
	m.line = append(m.line, m.given)
	c.state, c.ticket = api.Waiting, m.given
	row.Kind, row.Ticket, row.Set = api.RowBegun, m.given, form
}

// inside does an operation in Active that does not give it up.
func (m *model) inside(i int, op *api.Op, row *api.Row) {
	c := &m.clients[i]
	declared := slices.Contains(m.sets[c.ticket], op.Block)
	switch {
	case op.Kind == api.OpBegin:
		row.Kind, row.Err = api.RowRefused, api.ErrOpen
	case op.Kind == api.OpCommit:
		row.Kind, c.state = api.RowRequested, api.Committing
	case !declared:
		row.Kind, row.Block, row.Err = api.RowRefused, op.Block, api.ErrOutside
	case op.Kind == api.OpWrite:
		row.Kind, row.Block, row.Value = api.RowWritten, op.Block, op.Value
		c.writes = append(c.writes, api.Image{Block: op.Block, Value: op.Value})
	default:
		row.Kind, row.Block = api.RowRead, op.Block
		v, written := m.written(i, op.Block)
		if !written {
			v = m.store[op.Block]
		}
		row.Value = v
	}
}

// drop takes a ticket out of all queues.
func (m *model) drop(ticket uint64) {
	m.laid = slices.DeleteFunc(m.laid, func(n uint64) bool { return n == ticket })
	delete(m.locked, ticket)
}

// done ends one whose commit was acknowledged.
func (m *model) done(i int) api.Errno {
	c := &m.clients[i]
	if c.state != api.Committing {
		return api.ErrState
	}
	m.drop(c.ticket)
	*c = client{}
	return api.OK
}

// world is a desk and its transactions, beside a model of them: each call is done with both.
type world struct {
	t     *testing.T
	desk  txn.Desk
	txns  []*txn.Txn
	m     *model
	store map[int]api.Value // of a desk whose Read is not nil
	asked *[]int            // what its Read was asked for
}

// paired makes a world whose store tells zeros of all blocks.
func paired(t *testing.T, c api.Config) *world {
	t.Helper()
	line, e := admit.New(c)
	is(t, e, api.OK)
	locks, e := lock.New(c.Blocks)
	is(t, e, api.OK)
	w := &world{t: t, m: &model{c: c, sets: map[uint64][]int{}, left: map[uint64]int{}, locked: map[uint64][]int{}, clients: make([]client, c.Clients), store: map[int]api.Value{}}}
	w.desk = txn.Desk{Line: line, Locks: locks}
	w.reads(map[int]api.Value{})
	for i := range c.Clients {
		w.txns = append(w.txns, of(t, i))
	}
	return w
}

// reads lays a store under a world's desk.
func (w *world) reads(store map[int]api.Value) {
	w.store, w.asked = store, &[]int{}
	asked := w.asked
	w.desk.Read = func(block int) api.Value {
		*asked = append(*asked, block)
		return store[block]
	}
}

// small is the world of the chapter's examples.
func small(t *testing.T) *world {
	t.Helper()
	w := paired(t, api.Config{Blocks: 4, LogCap: 6, MaxRes: 3, High: 6, Clients: 2})
	for b := range 4 {
		w.put(b, filled(byte(100+b)))
	}
	return w
}

// put gives a block another value in the store.
func (w *world) put(block int, v api.Value) {
	w.store[block] = v
	w.m.store[block] = v
}

func (w *world) copy() *world {
	twin := *w
	twin.desk = txn.Desk{Line: w.desk.Line.Copy(), Locks: w.desk.Locks.Copy()}
	twin.reads(maps.Clone(w.store))
	twin.txns = nil
	for _, x := range w.txns {
		twin.txns = append(twin.txns, x.Copy())
	}
	twin.m = w.m.copy()
	return &twin
}

// tells holds all that a world tells against its model.
func (w *world) tells() {
	w.t.Helper()
	for i := range w.txns {
		w.tellsOne(i)
	}
	w.tellsLine()
	w.tellsLocks()
	if len(*w.asked) > 0 {
		w.t.Fatalf("the store was asked for %v", *w.asked)
	}
}

// tellsOne holds what a transaction tells against its model, and against what 18.7 and 18.8 promise.
func (w *world) tellsOne(i int) {
	w.t.Helper()
	x, c, m := w.txns[i], w.m.clients[i], w.m
	if x.Client() != i || x.State() != c.state || x.Ticket() != c.ticket {
		w.t.Fatalf("client %d: client %d, state %d, ticket %d, want state %d, ticket %d", i, x.Client(), x.State(), x.Ticket(), c.state, c.ticket)
	}
	if set := x.Set(); !slices.Equal(set, m.sets[c.ticket]) {
		w.t.Fatalf("client %d: Set = %v, want %v", i, set, m.sets[c.ticket])
	}
	if l := x.Images(); !slices.Equal(l, m.images(i)) {
		w.t.Fatalf("client %d: Images = %v, want %v", i, l, m.images(i))
	}
	for _, more := range []bool{false, true} {
		if got, want := x.Enabled(w.desk, more), m.enabled(i, more); got != want {
			w.t.Fatalf("client %d in %d: Enabled(%v) = %v, want %v", i, c.state, more, got, want)
		}
	}
	held := w.desk.Locks.Held(c.ticket)
	for _, b := range x.Set() {
		stands := slices.Contains(w.desk.Locks.Queue(b), c.ticket)
		if stands != (c.state >= api.Locking) {
			w.t.Fatalf("client %d in %d: stands at %d: %v", i, c.state, b, stands)
		}
		if c.state >= api.Active && !slices.Contains(held, b) {
			w.t.Fatalf("client %d in %d: holds %v of %v", i, c.state, held, x.Set())
		}
	}
}

func (w *world) tellsLine() {
	w.t.Helper()
	l, m := w.desk.Line, w.m
	if l.Used() != m.used || l.Reserved() != m.reserved() || l.Fits() != m.fits() {
		w.t.Fatalf("Used %d, Reserved %d, Fits %v, want %d, %d, %v", l.Used(), l.Reserved(), l.Fits(), m.used, m.reserved(), m.fits())
	}
	if got := l.Waiting(); !slices.Equal(got, m.line) {
		w.t.Fatalf("Waiting = %v, want %v", got, m.line)
	}
	if got, want := l.In(), slices.Sorted(maps.Keys(m.left)); !slices.Equal(got, want) {
		w.t.Fatalf("In = %v, want %v", got, want)
	}
	for n := range m.given + 2 {
		left, in := l.Left(n)
		if want, wantIn := m.left[n]; left != want || in != wantIn {
			w.t.Fatalf("Left(%d) = %d, %v, want %d, %v", n, left, in, want, wantIn)
		}
	}
	n, form, ok := l.First()
	if ok != (len(m.line) > 0) || ok && (n != m.line[0] || !slices.Equal(form, m.sets[n])) {
		w.t.Fatalf("First = %d, %v, %v, and the line is %v", n, form, ok, m.line)
	}
}

func (w *world) tellsLocks() {
	w.t.Helper()
	l, m := w.desk.Locks, w.m
	for b := -1; b <= m.c.Blocks; b++ {
		if got, want := l.Queue(b), m.queue(b); !slices.Equal(got, want) {
			w.t.Fatalf("Queue(%d) = %v, want %v", b, got, want)
		}
	}
	var laid []uint64
	for n, set := range l.All() {
		laid = append(laid, n)
		if !slices.Equal(set, m.sets[n]) {
			w.t.Fatalf("%d was laid with %v, want %v", n, set, m.sets[n])
		}
		if got := l.Held(n); !slices.Equal(got, m.locked[n]) {
			w.t.Fatalf("Held(%d) = %v, want %v", n, got, m.locked[n])
		}
	}
	if !slices.Equal(laid, m.laid) {
		w.t.Fatalf("%v are there, want %v", laid, m.laid)
	}
}

// same holds a row against another one, field by field.
func same(t *testing.T, got, want api.Row) {
	t.Helper()
	if got.Kind != want.Kind || got.Life != want.Life || got.Actor != want.Actor || got.Ticket != want.Ticket || got.Block != want.Block ||
		got.Value != want.Value || got.Position != want.Position || got.Count != want.Count || got.Err != want.Err || !slices.Equal(got.Set, want.Set) {
		t.Fatalf("the row %+v, want %+v", got, want)
	}
}

// step does a step with both, and holds what they answer and tell against each other.
func (w *world) step(i int, op *api.Op) (api.Row, bool, api.Errno) {
	w.t.Helper()
	state := w.txns[i].State()
	wantRow, wantUsed, want := w.m.step(i, op)
	row, used, e := w.txns[i].Step(w.desk, op)
	if used != wantUsed || e != want {
		w.t.Fatalf("client %d in %d: Step(%+v) = %+v, %v, %d, want %v, %d", i, state, op, row, used, e, wantUsed, want)
	}
	same(w.t, row, wantRow)
	w.askedFor(i, row)
	w.goes(state, w.txns[i].State(), row.Kind)
	w.tells()
	return row, used, e
}

// askedFor holds what the store was asked for against what a step had to ask it for.
func (w *world) askedFor(i int, row api.Row) {
	w.t.Helper()
	var want []int
	if row.Kind == api.RowRead {
		if _, written := w.m.written(i, row.Block); !written {
			want = []int{row.Block}
		}
	}
	if w.desk.Read != nil && !slices.Equal(*w.asked, want) {
		w.t.Fatalf("the store was asked for %v, want %v", *w.asked, want)
	}
	*w.asked = nil
}

// goes holds a change of the state against 18.7, and against the row that tells of it.
func (w *world) goes(from, to, kind int) {
	w.t.Helper()
	may := from == to && kind != api.RowBegun && kind != api.RowEntered && kind != api.RowRequested && kind != api.RowAborted ||
		from == api.None && to == api.Waiting && kind == api.RowBegun ||
		from == api.Waiting && to == api.Locking && kind == api.RowEntered ||
		from == api.Locking && to == api.Active && kind == api.RowLocked ||
		from == api.Active && to == api.Committing && kind == api.RowRequested ||
		from == api.Active && to == api.None && kind == api.RowAborted
	if !may {
		w.t.Fatalf("from %d to %d by a row of %d", from, to, kind)
	}
}

// done tells both that a commit was acknowledged.
func (w *world) done(i int) api.Errno {
	w.t.Helper()
	e := w.txns[i].Done(w.desk)
	if want := w.m.done(i); e != want {
		w.t.Fatalf("client %d: Done = %d, want %d", i, e, want)
	}
	w.tells()
	return e
}

// commit does what the daemon does with a request: the line is told of its records, the store has its values, and it is done.
func (w *world) commit(i int) {
	w.t.Helper()
	x := w.txns[i]
	n, images := x.Ticket(), x.Images()
	for range images {
		is(w.t, w.desk.Line.Append(n), api.OK)
		w.m.left[n]--
		w.m.used++
		w.tells()
	}
	is(w.t, w.desk.Line.Done(n), api.OK)
	delete(w.m.left, n)
	w.m.used++
	w.tells()
	for _, image := range images {
		w.put(image.Block, image.Value)
	}
	is(w.t, w.done(i), api.OK)
}

// free tells the line that so many slots are free again.
func (w *world) free(n int) {
	w.t.Helper()
	is(w.t, w.desk.Line.Freed(n), api.OK)
	w.m.used -= n
	w.tells()
}

// did does a step whose row is of a kind.
func (w *world) did(i, kind int, op *api.Op) api.Row {
	w.t.Helper()
	row, _, e := w.step(i, op)
	if e != api.OK || row.Kind != kind {
		w.t.Fatalf("client %d: Step(%+v) = %+v, %d, want a row of %d", i, op, row, e, kind)
	}
	return row
}

// idle does a step that there is not.
func (w *world) idle(i int, ops ...*api.Op) {
	w.t.Helper()
	for _, op := range ops {
		if _, _, e := w.step(i, op); e != api.ErrIdle {
			w.t.Fatalf("client %d: Step(%+v) = %d, want ErrIdle", i, op, e)
		}
	}
}

// to brings a client in None to a state, with a set.
func (w *world) to(i, state int, set ...int) {
	w.t.Helper()
	if state >= api.Waiting {
		w.did(i, api.RowBegun, begin(set...))
	}
	if state >= api.Locking {
		w.did(i, api.RowEntered, nil)
	}
	for state >= api.Active && w.txns[i].State() == api.Locking {
		w.did(i, api.RowLocked, nil)
	}
	if state >= api.Committing {
		w.did(i, api.RowRequested, op(api.OpCommit))
	}
	if got := w.txns[i].State(); got != state {
		w.t.Fatalf("client %d is in %d, want %d", i, got, state)
	}
}

func begin(set ...int) *api.Op { return &api.Op{Kind: api.OpBegin, Set: set} }

func read(block int) *api.Op { return &api.Op{Kind: api.OpRead, Block: block} }

func write(block int, n byte) *api.Op {
	return &api.Op{Kind: api.OpWrite, Block: block, Value: filled(n)}
}

func op(kind int) *api.Op { return &api.Op{Kind: kind} }

// full tells an operation all of whose fields say something.
func full(kind int) *api.Op {
	return &api.Op{Kind: kind, Set: []int{1}, Block: 1, Value: filled(9)}
}

// noKinds tells numbers that are no kind, and those that a narrower number, or another sign, would take for one.
func noKinds() []int {
	l := []int{0, -1, -2, -5, 6, 7, 9, 10, 100, math.MinInt, math.MaxInt, math.MaxInt - 1}
	for kind := 1; kind <= 5; kind++ {
		l = append(l, kind+8, kind+16, kind+256, kind+1<<16, kind+1<<32, kind+math.MinInt, ^kind, kind-256)
	}
	return l
}

// far tells numbers that are no block of so many, and those that a narrower number, or another sign, would take for one.
func far(blocks int) []int {
	l := []int{-1, -2, -64, blocks, blocks + 1, 64, 65, 1 << 16, 1 << 31, 1 << 32, 1 << 62, math.MinInt, math.MinInt + 1, math.MaxInt - 1, math.MaxInt}
	for _, b := range []int{0, blocks - 1} {
		l = append(l, ^b, b+64, b+128, b+256, b+1<<16, b+1<<32, b+math.MinInt, b-64, b-256)
	}
	return l
}

// rise tells so many numbers, each one above the one ahead of it.
func rise(from, n int) []int {
	var l []int
	for i := range n {
		l = append(l, from+i)
	}
	return l
}

// of makes a transaction.
func of(t *testing.T, client int) *txn.Txn {
	t.Helper()
	x, e := txn.New(client)
	if e != api.OK || x == nil {
		t.Fatalf("New(%d) = %v, %d", client, x, e)
	}
	return x
}

// is holds an error against another one.
func is(t *testing.T, got, want api.Errno) {
	t.Helper()
	if got != want {
		t.Fatalf("it answers %d, want %d", got, want)
	}
}

// states are all of them, in their order.
var states = []int{api.None, api.Waiting, api.Locking, api.Active, api.Committing}

func TestP18_1_New(t *testing.T) {
	for client := range 8 {
		x := of(t, client)
		if x.Client() != client || x.State() != api.None || x.Ticket() != 0 || len(x.Set()) != 0 || len(x.Images()) != 0 {
			t.Errorf("New(%d): client %d, state %d, ticket %d, set %v, images %v", client, x.Client(), x.State(), x.Ticket(), x.Set(), x.Images())
		}
	}
	for _, client := range []int{8, 9, 15, 16, 64, 128, 256, 263, 1 << 16, 1<<16 + 7, 1 << 31, 1 << 32, 1<<32 + 1, 1 << 62, -1, -2, -7, -8, -9, -256, math.MinInt, math.MinInt + 1, math.MinInt + 7, math.MaxInt - 1, math.MaxInt} {
		if x, e := txn.New(client); x != nil || e != api.ErrInput {
			t.Errorf("New(%d) = %v, %d", client, x, e)
		}
	}
}

func TestP18_1_TransactionsOfTheirOwn(t *testing.T) {
	w := paired(t, api.Config{Blocks: 4, LogCap: 10, MaxRes: 2, High: 6, Clients: 3})
	// Two of one client are two.
	twin := of(t, 0)
	w.to(0, api.Active, 0, 1)
	w.did(0, api.RowWritten, write(0, 4))
	if twin.State() != api.None || twin.Ticket() != 0 || len(twin.Set()) != 0 || len(twin.Images()) != 0 {
		t.Errorf("another one of client 0: state %d, ticket %d, set %v, images %v", twin.State(), twin.Ticket(), twin.Set(), twin.Images())
	}
	w.to(1, api.Active, 2, 3)
	w.did(1, api.RowWritten, write(2, 5))
	w.to(2, api.Locking, 0, 2)
	w.idle(2, nil)
	w.commit1(0)
	w.did(2, api.RowLocked, nil)
	w.idle(2, nil)
	w.commit1(1)
	w.did(2, api.RowLocked, nil)
	if row := w.did(2, api.RowRead, read(0)); row.Value != filled(4) {
		t.Errorf("read %v", row.Value)
	}
	if row := w.did(2, api.RowRead, read(2)); row.Value != filled(5) {
		t.Errorf("read %v", row.Value)
	}
}

// commit1 asks for a commit, and does what the daemon does.
func (w *world) commit1(i int) {
	w.t.Helper()
	w.did(i, api.RowRequested, op(api.OpCommit))
	w.commit(i)
}

func TestP18_1_EachClientInItsRows(t *testing.T) {
	w := paired(t, api.Config{Blocks: 8, LogCap: 64, MaxRes: 2, High: 6, Clients: 8})
	for i := range 8 {
		for _, o := range []*api.Op{begin(i), nil, nil, read(i), write(i, 3), read(7 - i), op(9), begin(1), nil, write(i, 3), op(9), begin(i), nil, nil, op(api.OpCommit)} {
			row, _, e := w.step(i, o)
			if e != api.OK || row.Actor != i {
				if o != nil || e != api.ErrIdle {
					t.Fatalf("client %d: %+v, %d", i, row, e)
				}
			}
		}
		w.commit(i)
	}
}

func TestP18_2_ToldInEachState(t *testing.T) {
	for _, state := range states {
		w := small(t)
		w.did(1, api.RowBegun, begin(3))
		w.did(1, api.RowEntered, nil)
		w.to(0, state, 2, 0)
		x := w.txns[0]
		var wantTicket uint64
		var wantSet []int
		if state != api.None {
			wantTicket, wantSet = 2, []int{0, 2}
		}
		if x.Client() != 0 || x.State() != state || x.Ticket() != wantTicket || !slices.Equal(x.Set(), wantSet) || len(x.Images()) != 0 {
			t.Errorf("in %d: client %d, state %d, ticket %d, set %v, images %v", state, x.Client(), x.State(), x.Ticket(), x.Set(), x.Images())
		}
	}
}

func TestP18_2_Images(t *testing.T) {
	w := small(t)
	w.to(0, api.Active, 3, 0, 1)
	w.did(0, api.RowWritten, write(3, 1))
	w.did(0, api.RowWritten, write(0, 2))
	w.did(0, api.RowWritten, write(3, 3))
	w.did(0, api.RowWritten, write(0, 0))
	want := []api.Image{{Block: 0}, {Block: 3, Value: filled(3)}}
	if l := w.txns[0].Images(); !slices.Equal(l, want) {
		t.Errorf("Images = %v", l)
	}
	w.did(0, api.RowRequested, op(api.OpCommit))
	if l := w.txns[0].Images(); !slices.Equal(l, want) {
		t.Errorf("Images of one that commits = %v", l)
	}
	w.commit(0)
	if l := w.txns[0].Images(); len(l) != 0 {
		t.Errorf("Images behind it = %v", l)
	}
	w.to(0, api.Active, 0, 3)
	if l := w.txns[0].Images(); len(l) != 0 {
		t.Errorf("Images of the next one = %v", l)
	}
}

func TestP18_2_CopiesInEachState(t *testing.T) {
	for _, state := range states {
		w := small(t)
		w.to(0, state, 0, 2)
		if state == api.Active {
			w.did(0, api.RowWritten, write(0, 1))
		}
		a := w.copy()
		a.tells()
		b := a.copy()
		c := b.copy()
		// Each one goes another way to its end; none of the others sees it.
		others := []*world{w, a, b, c}
		for n, x := range others {
			for _, o := range ways()[n] {
				x.step(0, o)
				if x.txns[0].State() == api.Committing {
					x.commit(0)
				}
				for _, y := range others {
					y.tells()
				}
			}
		}
	}
}

// ways tells operations that differ from the first one on that an active transaction does.
func ways() [][]*api.Op {
	return [][]*api.Op{
		{begin(1), nil, nil, nil, write(0, 2), write(2, 3), read(0), op(api.OpCommit), begin(0), nil, nil},
		{begin(3, 1), nil, nil, op(api.OpAbort), begin(2), nil, nil, nil, write(2, 4), op(api.OpCommit)},
		{read(0), begin(2), nil, nil, write(2, 5), write(0, 6), write(2, 7), op(api.OpAbort), op(api.OpAbort)},
		{begin(), nil, nil, nil, nil, nil, nil, begin(2, 0), nil, nil, nil, write(0, 8), op(api.OpCommit)},
	}
}

func TestP18_2_CopyOfTheTransactionAlone(t *testing.T) {
	w := small(t)
	w.to(0, api.Active, 0, 2)
	w.did(0, api.RowWritten, write(0, 1))
	x := w.txns[0].Copy()
	y := x.Copy()
	w.did(0, api.RowWritten, write(0, 2))
	w.did(0, api.RowWritten, write(2, 3))
	one := []api.Image{{Block: 0, Value: filled(1)}}
	if l := x.Images(); !slices.Equal(l, one) || x.State() != api.Active || x.Ticket() != 1 || x.Client() != 0 || !slices.Equal(x.Set(), []int{0, 2}) {
		t.Errorf("the copy: %v", l)
	}
	// What a copy writes stands in its own buffer; the desk has nothing of it.
	if _, _, e := x.Step(w.desk, write(2, 9)); e != api.OK {
		t.Fatalf("a copy's write: %d", e)
	}
	w.tells()
	if l := y.Images(); !slices.Equal(l, one) {
		t.Errorf("the copy's copy: %v", l)
	}
	if row, _, _ := x.Step(w.desk, read(0)); row.Value != filled(1) {
		t.Errorf("the copy reads %v", row.Value)
	}
	*w.asked = nil
	w.did(0, api.RowRequested, op(api.OpCommit))
	if x.State() != api.Active || y.State() != api.Active {
		t.Errorf("the copies are in %d and %d", x.State(), y.State())
	}
	w.commit(0)
	if x.Ticket() != 1 || !slices.Equal(x.Set(), []int{0, 2}) || len(x.Images()) != 2 {
		t.Errorf("the copy: ticket %d, set %v, images %v", x.Ticket(), x.Set(), x.Images())
	}
}

func TestP18_3_EnabledInEachState(t *testing.T) {
	for _, state := range states {
		w := small(t)
		w.to(0, state, 0, 2)
		x := w.txns[0]
		for _, more := range []bool{false, true} {
			want := state == api.None && more || state == api.Waiting || state == api.Locking || state == api.Active
			if got := x.Enabled(w.desk, more); got != want {
				t.Errorf("in %d: Enabled(%v) = %v", state, more, got)
			}
		}
		w.tells()
	}
}

func TestP18_3_EnabledWithoutADeskThatIsWhole(t *testing.T) {
	for _, state := range states {
		w := small(t)
		w.to(0, state, 0, 2)
		for name, d := range w.broken() {
			for _, more := range []bool{false, true} {
				if w.txns[0].Enabled(d, more) {
					t.Errorf("in %d: enabled with %s", state, name)
				}
			}
			w.tells()
		}
	}
}

// broken tells desks that lack something.
func (w *world) broken() map[string]txn.Desk {
	return map[string]txn.Desk{
		"no line":          {Locks: w.desk.Locks, Read: w.desk.Read},
		"no locks":         {Line: w.desk.Line, Read: w.desk.Read},
		"neither":          {Read: w.desk.Read},
		"nothing":          {},
		"no line, no Read": {Locks: w.desk.Locks},
	}
}

func TestP18_3_Waiting(t *testing.T) {
	w := paired(t, api.Config{Blocks: 6, LogCap: 6, MaxRes: 4, High: 6, Clients: 4})
	w.did(0, api.RowBegun, begin(0, 1))
	w.did(1, api.RowBegun, begin(2))
	w.did(2, api.RowBegun, begin(3))
	w.did(3, api.RowBegun, begin(5))
	// Each one stands behind the one ahead of it, though there is room for all but the last one.
	for _, i := range []int{3, 2, 1} {
		w.idle(i, nil, op(api.OpAbort), begin(1), op(0))
	}
	w.did(0, api.RowEntered, nil)
	w.idle(2, nil)
	w.did(1, api.RowEntered, nil)
	// 3 + 2 + 2 is above 6: it is the first, and does not fit.
	w.idle(2, nil, op(api.OpAbort))
	w.idle(3, nil)
	w.did(1, api.RowLocked, nil)
	w.did(1, api.RowAborted, nil)
	// 3 + 2 is below 6.
	w.idle(3, nil)
	w.did(2, api.RowEntered, op(api.OpAbort))
	w.idle(3, nil)
	w.did(0, api.RowLocked, nil)
	w.did(0, api.RowLocked, nil)
	w.did(0, api.RowWritten, write(0, 1))
	w.commit1(0)
	// 2 are used, 2 reserved, and 2 more are 6.
	w.did(3, api.RowEntered, nil)
}

func TestP18_3_WaitingForTheLog(t *testing.T) {
	w := paired(t, api.Config{Blocks: 4, LogCap: 5, MaxRes: 4, High: 5, Clients: 1})
	w.to(0, api.Active, 0, 1, 2, 3)
	w.did(0, api.RowWritten, write(0, 1))
	w.commit1(0)
	// 2 are used: of the 3 that are left it needs 4, then 3.
	w.did(0, api.RowBegun, begin(0, 1, 2))
	w.idle(0, nil, op(api.OpAbort))
	w.free(1)
	w.did(0, api.RowEntered, nil)
}

func TestP18_3_Locking(t *testing.T) {
	w := paired(t, api.Config{Blocks: 4, LogCap: 20, MaxRes: 3, High: 6, Clients: 3})
	w.to(0, api.Locking, 1, 2)
	w.to(1, api.Locking, 3, 2, 0)
	w.to(2, api.Locking, 0)
	w.did(1, api.RowLocked, nil)
	w.idle(1, nil, op(api.OpAbort), begin(1))
	w.idle(2, nil, op(api.OpCommit))
	if row := w.did(0, api.RowLocked, op(api.OpAbort)); row.Block != 1 {
		t.Errorf("locked %d", row.Block)
	}
	w.idle(1, nil)
	if row := w.did(0, api.RowLocked, nil); row.Block != 2 {
		t.Errorf("locked %d", row.Block)
	}
	w.idle(1, nil)
	w.did(0, api.RowRequested, op(api.OpCommit))
	w.idle(1, nil)
	w.commit(0)
	for _, b := range []int{2, 3} {
		if row := w.did(1, api.RowLocked, write(b, 3)); row.Block != b || row.Value != (api.Value{}) {
			t.Errorf("locked %d, %v", row.Block, row.Value)
		}
	}
	w.idle(2, nil)
	w.did(1, api.RowAborted, op(api.OpAbort))
	w.did(2, api.RowLocked, nil)
}

func TestP18_4_TakesItsBlocksOneByOne(t *testing.T) {
	c := api.Config{Blocks: 64, LogCap: 64, MaxRes: 16, High: 6, Clients: 1}
	for _, set := range [][]int{rise(0, 16), rise(48, 16), {63}, {0}, {63, 0}, {9, 3, 33, 3, 60, 9, 1}} {
		w := paired(t, c)
		w.to(0, api.Locking, set...)
		form := w.txns[0].Set()
		for n, b := range form {
			if w.txns[0].State() != api.Locking {
				t.Fatalf("with %d of %d blocks it is in %d", n, len(form), w.txns[0].State())
			}
			if row := w.did(0, api.RowLocked, nil); row.Block != b {
				t.Errorf("block %d is locked, want %d", row.Block, b)
			}
		}
		if w.txns[0].State() != api.Active {
			t.Errorf("with all blocks it is in %d", w.txns[0].State())
		}
	}
}

func TestP18_4_EveryOperationInEachState(t *testing.T) {
	var ops []*api.Op
	for kind := 1; kind <= 5; kind++ {
		ops = append(ops, op(kind), full(kind))
	}
	for _, kind := range noKinds() {
		ops = append(ops, op(kind), full(kind))
	}
	ops = append(ops, nil, begin(0, 2), begin(4), read(0), read(2), read(-1), write(2, 1), write(4, 1))
	for _, state := range states {
		for _, o := range ops {
			w := small(t)
			w.to(0, state, 2, 0)
			if state == api.Active {
				w.did(0, api.RowWritten, write(0, 5))
			}
			_, used, e := w.step(0, o)
			if want := (state == api.None || state == api.Active) && o != nil; used != want {
				t.Errorf("in %d: %+v is used: %v", state, o, used)
			}
			if idle := state == api.Committing || state == api.None && o == nil; idle != (e == api.ErrIdle) {
				t.Errorf("in %d: Step(%+v) = %d", state, o, e)
			}
		}
	}
}

func TestP18_4_Begin(t *testing.T) {
	c := api.Config{Blocks: 4, LogCap: 6, MaxRes: 3, High: 6, Clients: 1}
	for _, x := range []struct {
		set  []int
		form []int
		err  api.Errno
	}{
		{nil, nil, api.ErrEmpty},
		{[]int{}, nil, api.ErrEmpty},
		{[]int{0}, []int{0}, api.OK},
		{[]int{3}, []int{3}, api.OK},
		{[]int{1, 1}, []int{1}, api.OK},
		{[]int{2, 1, 0}, []int{0, 1, 2}, api.OK},
		{[]int{3, 1, 3, 1, 3, 0, 0}, []int{0, 1, 3}, api.OK},
		{[]int{0, 1, 2, 3}, nil, api.ErrMany},
		{[]int{3, 2, 1, 0, 0}, nil, api.ErrMany},
		{[]int{4}, nil, api.ErrBlock},
		{[]int{-1}, nil, api.ErrBlock},
		{[]int{0, 1, 2, 3, 4}, nil, api.ErrBlock},
		{[]int{-1, 0, 1, 2, 3}, nil, api.ErrBlock},
		{[]int{0, math.MinInt}, nil, api.ErrBlock},
		{[]int{math.MaxInt, 0}, nil, api.ErrBlock},
		{slices.Repeat([]int{2, 0}, 1000), []int{0, 2}, api.OK},
	} {
		w := paired(t, c)
		row, used, e := w.step(0, begin(x.set...))
		want := api.Row{Kind: api.RowBegun, Ticket: 1, Block: -1, Set: x.form}
		if x.err != api.OK {
			want = api.Row{Kind: api.RowRejected, Block: -1, Err: x.err}
		}
		same(t, row, want)
		if !used || e != api.OK {
			t.Errorf("Begin(%v): used %v, %d", x.set, used, e)
		}
		// One that was rejected has taken no ticket.
		if x.err != api.OK {
			if row := w.did(0, api.RowBegun, begin(3)); row.Ticket != 1 {
				t.Errorf("behind Begin(%v) the next ticket is %d", x.set, row.Ticket)
			}
		}
	}
	for _, b := range far(4) {
		w := paired(t, c)
		if row := w.did(0, api.RowRejected, begin(b)); row.Err != api.ErrBlock {
			t.Errorf("Begin(%d): %d", b, row.Err)
		}
		if row := w.did(0, api.RowRejected, begin(0, b, 1)); row.Err != api.ErrBlock {
			t.Errorf("Begin(0, %d, 1): %d", b, row.Err)
		}
	}
}

func TestP18_4_BeginOfAllBlocks(t *testing.T) {
	for blocks := 1; blocks <= 64; blocks++ {
		most := min(blocks, 16)
		w := paired(t, api.Config{Blocks: blocks, LogCap: 17, MaxRes: most, High: 1, Clients: 1})
		if blocks > most {
			if row := w.did(0, api.RowRejected, begin(rise(0, blocks)...)); row.Err != api.ErrMany {
				t.Errorf("all of %d blocks: %d", blocks, row.Err)
			}
			if row := w.did(0, api.RowRejected, begin(rise(0, most+1)...)); row.Err != api.ErrMany {
				t.Errorf("%d of %d blocks: %d", most+1, blocks, row.Err)
			}
		}
		w.to(0, api.Active, rise(blocks-most, most)...)
		for b := blocks - most; b < blocks; b++ {
			w.did(0, api.RowWritten, write(b, byte(b+1)))
		}
		w.commit1(0)
		if got := w.desk.Line.Used(); got != most+1 {
			t.Errorf("%d are used", got)
		}
	}
}

func TestP18_4_RowsOfNone(t *testing.T) {
	w := small(t)
	w.to(1, api.Active, 1)
	for _, x := range []struct {
		op  *api.Op
		row api.Row
	}{
		{full(api.OpRead), api.Row{Kind: api.RowRefused, Block: 1, Err: api.ErrState}},
		{full(api.OpWrite), api.Row{Kind: api.RowRefused, Block: 1, Err: api.ErrState}},
		{full(api.OpCommit), api.Row{Kind: api.RowRefused, Block: -1, Err: api.ErrState}},
		{full(api.OpAbort), api.Row{Kind: api.RowRefused, Block: -1, Err: api.ErrState}},
		{full(0), api.Row{Kind: api.RowRefused, Block: -1, Err: api.ErrInput}},
		{full(6), api.Row{Kind: api.RowRefused, Block: -1, Err: api.ErrInput}},
		{&api.Op{Kind: api.OpBegin, Set: []int{4}, Block: 2, Value: filled(3)}, api.Row{Kind: api.RowRejected, Block: -1, Err: api.ErrBlock}},
		{&api.Op{Kind: api.OpBegin, Set: []int{3, 0}, Block: 2, Value: filled(3)}, api.Row{Kind: api.RowBegun, Ticket: 2, Block: -1, Set: []int{0, 3}}},
	} {
		row, used, e := w.step(0, x.op)
		same(t, row, x.row)
		if !used || e != api.OK {
			t.Errorf("%+v: used %v, %d", x.op, used, e)
		}
	}
	for _, b := range append(far(4), 0, 1, 2, 3) {
		w := small(t)
		same(t, w.did(0, api.RowRefused, read(b)), api.Row{Kind: api.RowRefused, Block: b, Err: api.ErrState})
		same(t, w.did(0, api.RowRefused, write(b, 1)), api.Row{Kind: api.RowRefused, Block: b, Err: api.ErrState})
	}
}

func TestP18_4_RowsOfActive(t *testing.T) {
	for _, x := range []struct {
		op   *api.Op
		row  api.Row
		used bool
	}{
		{full(api.OpBegin), api.Row{Kind: api.RowRefused, Block: -1, Err: api.ErrOpen}, true},
		{begin(), api.Row{Kind: api.RowRefused, Block: -1, Err: api.ErrOpen}, true},
		{begin(9), api.Row{Kind: api.RowRefused, Block: -1, Err: api.ErrOpen}, true},
		{full(api.OpRead), api.Row{Kind: api.RowRead, Block: 1, Value: filled(101)}, true},
		{full(api.OpWrite), api.Row{Kind: api.RowWritten, Block: 1, Value: filled(9)}, true},
		{write(1, 0), api.Row{Kind: api.RowWritten, Block: 1}, true},
		{read(0), api.Row{Kind: api.RowRefused, Block: 0, Err: api.ErrOutside}, true},
		{write(0, 7), api.Row{Kind: api.RowRefused, Block: 0, Err: api.ErrOutside}, true},
		{full(api.OpCommit), api.Row{Kind: api.RowRequested, Block: -1}, true},
		{full(api.OpAbort), api.Row{Kind: api.RowAborted, Block: -1}, true},
		{nil, api.Row{Kind: api.RowAborted, Block: -1}, false},
		{full(-1), api.Row{Kind: api.RowRefused, Block: -1, Err: api.ErrInput}, true},
		{full(6), api.Row{Kind: api.RowRefused, Block: -1, Err: api.ErrInput}, true},
	} {
		w := small(t)
		w.to(0, api.Active, 0)
		w.to(1, api.Active, 3, 1)
		row, used, e := w.step(1, x.op)
		x.row.Actor, x.row.Ticket = 1, 2
		same(t, row, x.row)
		if used != x.used || e != api.OK {
			t.Errorf("%+v: used %v, %d", x.op, used, e)
		}
	}
}

func TestP18_4_ReadsAndWritesOfEachBlock(t *testing.T) {
	c := api.Config{Blocks: 64, LogCap: 64, MaxRes: 16, High: 6, Clients: 1}
	for _, set := range [][]int{{0}, {63}, {31, 32}, rise(0, 16), rise(48, 16), {1, 4, 9, 16, 25, 36, 49}} {
		w := paired(t, c)
		for b := range 64 {
			w.put(b, filled(byte(b+1)))
		}
		w.to(0, api.Active, set...)
		for b := range 64 {
			w.step(0, read(b))
			w.step(0, write(b, byte(100+b)))
			w.step(0, read(b))
		}
		for _, b := range far(64) {
			same(t, w.did(0, api.RowRefused, read(b)), api.Row{Kind: api.RowRefused, Ticket: 1, Block: b, Err: api.ErrOutside})
			same(t, w.did(0, api.RowRefused, write(b, 1)), api.Row{Kind: api.RowRefused, Ticket: 1, Block: b, Err: api.ErrOutside})
		}
		if n := len(w.txns[0].Images()); n != len(set) {
			t.Errorf("%d images of %v", n, set)
		}
	}
}

func TestP18_4_ReadWithAndWithoutAStore(t *testing.T) {
	w := small(t)
	w.to(0, api.Active, 0, 1, 2)
	w.did(0, api.RowWritten, write(0, 1))
	w.did(0, api.RowWritten, write(2, 2))
	w.did(0, api.RowWritten, write(2, 3))
	value := func(b int, want api.Value) {
		t.Helper()
		if row := w.did(0, api.RowRead, read(b)); row.Value != want {
			t.Errorf("Read of %d: %v, want %v", b, row.Value, want)
		}
	}
	value(0, filled(1))
	value(1, filled(101))
	value(2, filled(3))
	// The store's value is that of the moment.
	w.put(1, filled(77))
	value(1, filled(77))
	w.put(0, filled(78))
	value(0, filled(1))
	w.did(0, api.RowWritten, write(0, 0))
	value(0, api.Value{})
	w.desk.Read = nil
	w.m.store = map[int]api.Value{}
	value(0, api.Value{})
	value(1, api.Value{})
	value(2, filled(3))
	w.did(0, api.RowRefused, read(3))
}

func TestP18_4_WithoutAStore(t *testing.T) {
	for _, o := range []*api.Op{nil, read(0), read(1), read(-1), write(0, 2), op(api.OpCommit), op(api.OpAbort), begin(1), op(7)} {
		for _, state := range states {
			w := paired(t, api.Config{Blocks: 4, LogCap: 6, MaxRes: 3, High: 6, Clients: 2})
			w.desk.Read = nil
			w.to(0, state, 0, 2)
			w.step(0, o)
		}
	}
}

func TestP18_4_HandlesAreTheFirstError(t *testing.T) {
	for _, state := range states {
		for _, o := range []*api.Op{nil, begin(1), read(0), write(0, 1), op(api.OpCommit), op(api.OpAbort), op(0), op(6)} {
			w := small(t)
			w.to(0, state, 0, 2)
			for name, d := range w.broken() {
				row, used, e := w.txns[0].Step(d, o)
				if used || e != api.ErrHandle {
					t.Errorf("in %d with %s: Step(%+v) = %v, %d", state, name, o, used, e)
				}
				same(t, row, api.Row{})
				is(t, w.txns[0].Done(d), api.ErrHandle)
				w.tells()
			}
		}
	}
}

func TestP18_4_IdleChangesNothing(t *testing.T) {
	w := small(t)
	w.idle(0, nil)
	w.to(0, api.Committing, 0, 2)
	w.did(1, api.RowBegun, begin(2))
	w.did(1, api.RowEntered, nil)
	for range 3 {
		for kind := -1; kind <= 7; kind++ {
			w.idle(0, nil, op(kind), full(kind))
			w.idle(1, nil, op(kind), full(kind))
		}
	}
	w.commit(0)
	w.did(1, api.RowLocked, nil)
}

func TestP18_4_AbortGivesAllBack(t *testing.T) {
	for _, o := range []*api.Op{nil, op(api.OpAbort), full(api.OpAbort)} {
		w := paired(t, api.Config{Blocks: 4, LogCap: 4, MaxRes: 3, High: 4, Clients: 2})
		w.to(0, api.Active, 0, 1, 3)
		w.did(0, api.RowWritten, write(0, 1))
		w.did(0, api.RowWritten, write(3, 1))
		w.did(1, api.RowBegun, begin(3))
		w.idle(1, nil)
		row := w.did(0, api.RowAborted, o)
		same(t, row, api.Row{Kind: api.RowAborted, Ticket: 1, Block: -1})
		if w.desk.Line.Reserved() != 0 || w.desk.Line.Used() != 0 || len(w.desk.Locks.Queue(3)) != 0 {
			t.Errorf("behind it: reserved %d, used %d, queue %v", w.desk.Line.Reserved(), w.desk.Line.Used(), w.desk.Locks.Queue(3))
		}
		w.did(1, api.RowEntered, nil)
		w.did(1, api.RowLocked, nil)
		if row := w.did(1, api.RowRead, read(3)); row.Value != (api.Value{}) {
			t.Errorf("what was given up is read: %v", row.Value)
		}
		// The one that was given up begins again.
		if row := w.did(0, api.RowBegun, begin(0)); row.Ticket != 3 {
			t.Errorf("its next ticket is %d", row.Ticket)
		}
	}
}

func TestP18_5_DoneInEachState(t *testing.T) {
	for _, state := range states {
		w := small(t)
		w.to(0, state, 0, 2)
		want := api.ErrState
		if state == api.Committing {
			want = api.OK
		}
		if e := w.done(0); e != want {
			t.Errorf("in %d: Done = %d", state, e)
		}
		// Twice.
		if e := w.done(0); e != api.ErrState {
			t.Errorf("in %d: Done again = %d", state, e)
		}
	}
}

func TestP18_5_DoneLeavesTheLine(t *testing.T) {
	// That its records were appended the daemon tells the line: Done tells it nothing, and asks it nothing.
	w := small(t)
	w.to(0, api.Committing, 0, 2)
	w.did(1, api.RowBegun, begin(2))
	w.did(1, api.RowEntered, nil)
	is(t, w.done(0), api.OK)
	if r := w.desk.Line.Reserved(); r != 5 {
		t.Errorf("%d are reserved", r)
	}
	if in := w.desk.Line.In(); !slices.Equal(in, []uint64{1, 2}) {
		t.Errorf("%v are in", in)
	}
	w.did(1, api.RowLocked, nil)
}

func TestP18_5_DoneWithoutAStore(t *testing.T) {
	w := small(t)
	w.to(0, api.Committing, 0, 2)
	w.desk.Read = nil
	is(t, w.done(0), api.OK)
	is(t, w.done(0), api.ErrState)
}

func TestP18_6_Nil(t *testing.T) {
	var x *txn.Txn
	w := small(t)
	if x.Client() != -1 || x.State() != 0 || x.Ticket() != 0 || len(x.Set()) != 0 || len(x.Images()) != 0 || x.Copy() != nil {
		t.Errorf("nil: client %d, state %d, ticket %d, set %v, images %v, copy %v", x.Client(), x.State(), x.Ticket(), x.Set(), x.Images(), x.Copy())
	}
	desks := w.broken()
	desks["a whole one"] = w.desk
	for name, d := range desks {
		for _, more := range []bool{false, true} {
			if x.Enabled(d, more) {
				t.Errorf("nil is enabled with %s", name)
			}
		}
		for _, o := range []*api.Op{nil, begin(1), read(0), write(0, 1), op(api.OpCommit), op(api.OpAbort), op(0), op(6)} {
			row, used, e := x.Step(d, o)
			if used || e != api.ErrHandle {
				t.Errorf("nil with %s: Step(%+v) = %v, %d", name, o, used, e)
			}
			same(t, row, api.Row{})
		}
		is(t, x.Done(d), api.ErrHandle)
		w.tells()
	}
}

func TestP18_7_TheWholeWay(t *testing.T) {
	w := small(t)
	for range 3 {
		x := w.txns[0]
		var way []int
		note := func() { way = append(way, x.State()) }
		note()
		for _, o := range []*api.Op{begin(3), nil, nil, write(3, 1), op(api.OpCommit)} {
			w.step(0, o)
			note()
		}
		w.idle(0, nil, begin(1), op(api.OpAbort))
		w.commit(0)
		note()
		w.free(2)
		if !slices.Equal(way, []int{api.None, api.Waiting, api.Locking, api.Active, api.Active, api.Committing, api.None}) {
			t.Errorf("its way was %v", way)
		}
	}
}

func TestP18_8_HoldsWhileOthersWait(t *testing.T) {
	w := paired(t, api.Config{Blocks: 3, LogCap: 30, MaxRes: 3, High: 6, Clients: 8})
	for i := range 8 {
		w.to(i, api.Locking, rise(0, 1+i%3)...)
	}
	for i := range 8 {
		for w.txns[i].State() == api.Locking {
			for later := i + 1; later < 8; later++ {
				w.idle(later, nil, op(api.OpAbort))
			}
			w.did(i, api.RowLocked, nil)
		}
		if n, ok := w.desk.Locks.Holder(0); !ok || n != uint64(i+1) {
			t.Errorf("block 0 is locked by %d, %v", n, ok)
		}
		if i%2 == 0 {
			w.did(i, api.RowRequested, op(api.OpCommit))
			w.commit(i)
		} else {
			w.did(i, api.RowAborted, nil)
		}
	}
}

func TestP18_9_WritesAreItsOwn(t *testing.T) {
	w := paired(t, api.Config{Blocks: 4, LogCap: 12, MaxRes: 2, High: 6, Clients: 3})
	w.put(0, filled(10))
	w.to(0, api.Active, 0, 1)
	w.to(1, api.Active, 2, 3)
	w.did(0, api.RowWritten, write(0, 1))
	w.did(1, api.RowWritten, write(2, 2))
	w.did(1, api.RowRefused, read(0))
	w.did(0, api.RowRefused, read(2))
	if w.store[0] != filled(10) || w.store[2] != (api.Value{}) {
		t.Errorf("the store has %v", w.store)
	}
	w.did(0, api.RowAborted, op(api.OpAbort))
	if w.desk.Line.Used() != 0 || w.store[0] != filled(10) {
		t.Errorf("what was given up: Used %d, the store has %v", w.desk.Line.Used(), w.store)
	}
	// The same client's next one sees nothing of it either.
	w.to(0, api.Active, 0, 1)
	if row := w.did(0, api.RowRead, read(0)); row.Value != filled(10) {
		t.Errorf("read %v", row.Value)
	}
	w.did(0, api.RowAborted, nil)
	w.to(2, api.Active, 0, 1)
	if row := w.did(2, api.RowRead, read(0)); row.Value != filled(10) {
		t.Errorf("read %v", row.Value)
	}
}

func TestP18_10_RefusedAreUsedAndNoMore(t *testing.T) {
	bad := []*api.Op{begin(1), begin(), begin(7), read(1), read(-1), read(math.MinInt), read(math.MaxInt), write(1, 3), write(4, 3), op(0), op(6), op(math.MinInt), op(math.MaxInt)}
	w := small(t)
	w.to(0, api.Active, 0, 2)
	w.did(0, api.RowWritten, write(2, 1))
	for _, o := range bad {
		before := w.copy()
		row, used, e := w.step(0, o)
		if row.Kind != api.RowRefused || !used || e != api.OK {
			t.Errorf("%+v: %+v, %v, %d", o, row, used, e)
		}
		// All that the world tells is as it was.
		w.m = before.m
		w.tells()
	}
	n := small(t)
	for _, o := range []*api.Op{read(1), read(-1), write(0, 1), write(math.MaxInt, 1), op(api.OpCommit), op(api.OpAbort), op(0), op(6), op(math.MinInt), begin(), begin(4), begin(0, 1, 2, 3)} {
		before := n.copy()
		row, used, e := n.step(0, o)
		if row.Kind != api.RowRefused && row.Kind != api.RowRejected || !used || e != api.OK {
			t.Errorf("%+v: %+v, %v, %d", o, row, used, e)
		}
		n.m = before.m
		n.tells()
	}
}

// choices are operations that every short run is made of.
func choices() []*api.Op {
	return []*api.Op{nil, begin(0), begin(1, 0), begin(2), read(0), write(0, 1), op(api.OpCommit), op(api.OpAbort), op(6)}
}

// allRuns does all runs of so many steps of two clients, a Done and a commit among them.
func allRuns(w *world, steps int) int {
	if steps == 0 {
		return 1
	}
	n := 0
	for i := range w.txns {
		for _, o := range choices() {
			x := w.copy()
			if _, _, e := x.step(i, o); e == api.OK {
				n += allRuns(x, steps-1)
			}
		}
		if x := w.copy(); x.txns[i].State() == api.Committing {
			x.commit(i)
			n += allRuns(x, steps-1)
		}
		w.tells()
	}
	return n
}

func TestP18_7_AllShortRuns(t *testing.T) {
	c := api.Config{Blocks: 2, LogCap: 4, MaxRes: 2, High: 4, Clients: 2}
	if n := allRuns(paired(t, c), 4); n < 1000 {
		t.Errorf("%d runs", n)
	}
	w := paired(t, c)
	w.to(0, api.Locking, 0, 1)
	w.to(1, api.Waiting, 0)
	allRuns(w, 4)
	v := paired(t, c)
	v.to(0, api.Active, 0)
	v.to(1, api.Active, 1)
	v.did(0, api.RowWritten, write(0, 9))
	allRuns(v, 4)
}

func TestR5_TwoAlike(t *testing.T) {
	c := chance(5)
	a := small(t)
	b := small(t)
	for range 2000 {
		i, o := c.below(2), c.op(4)
		rowA, usedA, eA := a.step(i, o)
		rowB, usedB, eB := b.step(i, o)
		same(t, rowA, rowB)
		if usedA != usedB || eA != eB {
			t.Fatalf("%v, %d and %v, %d", usedA, eA, usedB, eB)
		}
		a.daemon(&c, i)
		b.match(a)
	}
}

// match does with a world what the daemon has done with another one.
func (w *world) match(a *world) {
	for i, x := range a.txns {
		if w.txns[i].State() == api.Committing && x.State() == api.None {
			w.commit(i)
		}
	}
	if n := w.desk.Line.Used() - a.desk.Line.Used(); n > 0 {
		w.free(n)
	}
}

// daemon commits a client's transaction if it asks for it, and frees what is used, now and then.
func (w *world) daemon(c *chance, i int) {
	if w.txns[i].State() == api.Committing && c.below(3) > 0 {
		w.commit(i)
	}
	if used := w.desk.Line.Used(); used > 0 && c.below(3) == 0 {
		w.free(1 + c.below(used))
	}
}

// op tells some operation of so many blocks; the ones that a transaction needs come oftener.
func (c *chance) op(blocks int) *api.Op {
	o := &api.Op{Kind: 1 + c.below(5), Block: c.below(blocks), Value: c.value()}
	switch c.below(12) {
	case 0:
		return nil
	case 1:
		o.Kind = noKinds()[c.below(len(noKinds()))]
	case 2:
		o.Block = far(blocks)[c.below(len(far(blocks)))]
	case 3, 4, 5, 6:
		o.Kind = api.OpRead + c.below(2)
	}
	for range c.below(5) {
		o.Set = append(o.Set, c.below(blocks))
	}
	if c.below(20) == 0 {
		o.Set = append(o.Set, far(blocks)[c.below(len(far(blocks)))])
	}
	return o
}

// spare is how many elements lie behind a list that roomy makes.
const spare = 40

// roomy tells the same list with spare room behind it.
func roomy[E any](list []E, filler E) []E {
	l := append(slices.Clone(list), slices.Repeat([]E{filler}, spare)...)
	return l[:len(list)]
}

// keeps tells whether a list made by roomy still is as it was made, spare room too.
func keeps[E comparable](l, was []E, filler E) bool {
	return slices.Equal(l, was) && slices.Equal(l[len(l):len(l)+spare], slices.Repeat([]E{filler}, spare))
}

// spoil writes over a list, spare room too.
func spoil[E any](l []E, with E) {
	l = l[:cap(l)]
	for i := range l {
		l[i] = with
	}
}

// spoilAnswers writes over all that a transaction hands out, and into the room behind it, and lets it grow.
func spoilAnswers(x *txn.Txn) {
	bad := api.Image{Block: -99, Value: filled(99)}
	spoil(x.Set(), -99)
	spoil(x.Images(), bad)
	spoil(append(x.Set(), 98, 97), -98)
	spoil(append(x.Images(), bad, bad), bad)
	_ = append(x.Set(), 5)
	_ = append(x.Images(), bad)
}

// spoilt does a step with an operation of its own, sees that it is as it was, and writes over it and over what is handed out.
func (w *world) spoilt(i int, o *api.Op) {
	w.t.Helper()
	given := o
	if o != nil {
		given = &api.Op{Kind: o.Kind, Set: roomy(o.Set, 77), Block: o.Block, Value: o.Value}
	}
	row, _, _ := w.step(i, given)
	if o != nil {
		if given.Kind != o.Kind || given.Block != o.Block || given.Value != o.Value || len(given.Set) != len(o.Set) || !keeps(given.Set, o.Set, 77) {
			w.t.Fatalf("%+v has become %+v", o, given)
		}
		spoil(given.Set, -99)
		given.Kind, given.Block, given.Value, given.Set = -9, -9, filled(99), nil
	}
	grown := append(row.Set, 3, 2, 1)
	spoil(row.Set, -99)
	spoil(grown, -98)
	for _, x := range w.txns {
		spoilAnswers(x)
	}
	w.tells()
}

func TestR3_NothingIsKeptOrShared(t *testing.T) {
	w := small(t)
	w.spoilt(0, begin(3, 0, 3))
	w.spoilt(0, nil)
	w.spoilt(0, nil)
	w.spoilt(0, nil)
	w.spoilt(0, write(3, 1))
	w.spoilt(0, write(0, 2))
	w.spoilt(0, read(3))
	twin := w.copy()
	for _, x := range []*world{w, twin} {
		spoilAnswers(x.txns[0])
		w.tells()
		twin.tells()
	}
	twin.spoilt(0, write(0, 3))
	w.tells()
	w.spoilt(0, op(api.OpCommit))
	twin.tells()
	w.commit(0)
	twin.tells()
}

func TestR3_LongRuns(t *testing.T) {
	for n, c := range []api.Config{
		{Blocks: 4, LogCap: 6, MaxRes: 3, High: 6, Clients: 2},
		{Blocks: 1, LogCap: 2, MaxRes: 1, High: 1, Clients: 8},
		{Blocks: 8, LogCap: 9, MaxRes: 4, High: 5, Clients: 8},
		{Blocks: 64, LogCap: 64, MaxRes: 16, High: 64, Clients: 8},
		{Blocks: 5, LogCap: 64, MaxRes: 5, High: 5, Clients: 5},
	} {
		c2 := chance(1000 + n)
		w := paired(t, c)
		kinds := map[int]int{}
		for range 3000 {
			i := c2.below(c.Clients)
			before := w.txns[i].State()
			w.spoilt(i, c2.op(min(c.Blocks, 6)))
			kinds[before*10+w.txns[i].State()]++
			w.daemon(&c2, i)
		}
		// All steps from state to state were done, and often.
		for _, way := range []int{1, 12, 23, 34, 30} {
			if kinds[way] < 10 {
				t.Errorf("%+v: from %d to %d %d times", c, way/10, way%10, kinds[way])
			}
		}
	}
}

func TestR3_LongRunsWithCopies(t *testing.T) {
	c := chance(77)
	worlds := []*world{paired(t, api.Config{Blocks: 5, LogCap: 8, MaxRes: 3, High: 6, Clients: 4})}
	for range 3000 {
		w := worlds[c.below(len(worlds))]
		i := c.below(4)
		w.spoilt(i, c.op(5))
		w.daemon(&c, i)
		if c.below(10) == 0 {
			twin := w.copy()
			if len(worlds) < 6 {
				worlds = append(worlds, twin)
			} else {
				worlds[c.below(6)] = twin
			}
		}
		for _, x := range worlds {
			x.tells()
		}
	}
}

func TestR1_DesksOfOtherRuns(t *testing.T) {
	// What becomes of a transaction with another's line and locks is open: each call ends, and none panics.
	c := chance(9)
	cfgs := []api.Config{
		{Blocks: 4, LogCap: 6, MaxRes: 3, High: 6, Clients: 2},
		{Blocks: 1, LogCap: 2, MaxRes: 1, High: 1, Clients: 1},
		{Blocks: 64, LogCap: 64, MaxRes: 16, High: 64, Clients: 8},
	}
	for range 40 {
		var desks []txn.Desk
		var txns []*txn.Txn
		for _, cfg := range cfgs {
			w := paired(t, cfg)
			desks = append(desks, w.desk)
			txns = append(txns, w.txns...)
		}
		for range 400 {
			x := txns[c.below(len(txns))]
			d := txn.Desk{Line: desks[c.below(3)].Line, Locks: desks[c.below(3)].Locks, Read: desks[c.below(3)].Read}
			x.Enabled(d, c.below(2) == 0)
			if c.below(8) == 0 {
				x.Done(d)
			}
			x.Step(d, c.op(5))
			if s := x.State(); s < api.None || s > api.Committing {
				t.Fatalf("its state is %d", s)
			}
			x.Copy().Step(d, c.op(5))
			if len(x.Set()) < len(x.Images()) {
				t.Fatalf("%v of %v", x.Images(), x.Set())
			}
		}
	}
}

func TestR1_AStoreThatSteps(t *testing.T) {
	// A desk's Read may itself work on the transaction that asks it: the row is of the one that has asked.
	for _, o := range []*api.Op{nil, op(api.OpAbort), op(api.OpCommit), write(0, 3), begin(1)} {
		w := small(t)
		w.to(0, api.Active, 0, 2)
		x, d := w.txns[0], w.desk
		d.Read = func(block int) api.Value {
			x.Step(w.desk, o)
			x.Done(w.desk)
			return filled(4)
		}
		row, used, e := x.Step(d, read(2))
		same(t, row, api.Row{Kind: api.RowRead, Ticket: 1, Block: 2, Value: filled(4)})
		if !used || e != api.OK {
			t.Errorf("used %v, %d", used, e)
		}
	}
}

func TestR6_AskingChangesNothing(t *testing.T) {
	for _, state := range states {
		w := small(t)
		w.to(0, state, 0, 2)
		x := w.txns[0]
		for range 3 {
			x.Client()
			x.State()
			x.Ticket()
			x.Set()
			x.Images()
			x.Enabled(w.desk, true)
			x.Enabled(w.desk, false)
			x.Copy()
			w.tells()
		}
		if state != api.Committing {
			is(t, x.Done(w.desk), api.ErrState)
			w.tells()
		}
		w.step(0, nil)
	}
}

func TestExamples(t *testing.T) {
	w := small(t)
	a, b := 0, 1
	v := filled(7)
	row := func(i int, o *api.Op, used bool, want api.Row) {
		t.Helper()
		want.Actor = i
		got, u, e := w.step(i, o)
		same(t, got, want)
		if u != used || e != api.OK {
			t.Errorf("%+v: %v, %d", o, u, e)
		}
	}
	row(a, read(1), true, api.Row{Kind: api.RowRefused, Ticket: 0, Block: 1, Err: api.ErrState})
	row(a, begin(), true, api.Row{Kind: api.RowRejected, Block: -1, Err: api.ErrEmpty})
	row(a, begin(2, 0), true, api.Row{Kind: api.RowBegun, Ticket: 1, Block: -1, Set: []int{0, 2}})
	row(b, begin(2), true, api.Row{Kind: api.RowBegun, Ticket: 2, Block: -1, Set: []int{2}})
	w.idle(b, nil, op(api.OpAbort))
	row(a, nil, false, api.Row{Kind: api.RowEntered, Ticket: 1, Block: -1})
	row(b, nil, false, api.Row{Kind: api.RowEntered, Ticket: 2, Block: -1})
	w.idle(b, nil)
	row(a, nil, false, api.Row{Kind: api.RowLocked, Ticket: 1, Block: 0})
	row(a, nil, false, api.Row{Kind: api.RowLocked, Ticket: 1, Block: 2})
	if s := w.txns[a].State(); s != api.Active {
		t.Errorf("a is in %d", s)
	}
	row(a, write(0, 7), true, api.Row{Kind: api.RowWritten, Ticket: 1, Block: 0, Value: v})
	row(a, read(0), true, api.Row{Kind: api.RowRead, Ticket: 1, Block: 0, Value: v})
	row(a, read(2), true, api.Row{Kind: api.RowRead, Ticket: 1, Block: 2, Value: filled(102)})
	row(a, read(1), true, api.Row{Kind: api.RowRefused, Ticket: 1, Block: 1, Err: api.ErrOutside})
	row(a, begin(1), true, api.Row{Kind: api.RowRefused, Ticket: 1, Block: -1, Err: api.ErrOpen})
	row(a, op(api.OpCommit), true, api.Row{Kind: api.RowRequested, Ticket: 1, Block: -1})
	w.idle(a, nil, begin(1))
	is(t, w.done(a), api.OK)
	if x := w.txns[a]; x.State() != api.None || x.Ticket() != 0 {
		t.Errorf("a is in %d with %d", x.State(), x.Ticket())
	}
	is(t, w.done(a), api.ErrState)
	row(b, nil, false, api.Row{Kind: api.RowLocked, Ticket: 2, Block: 2})
	if s := w.txns[b].State(); s != api.Active {
		t.Errorf("b is in %d", s)
	}
	row(b, nil, false, api.Row{Kind: api.RowAborted, Ticket: 2, Block: -1})
	if r := w.desk.Line.Reserved(); r != 3 {
		t.Errorf("%d are reserved", r)
	}
}
