package group_test

import (
	"bytes"
	"maps"
	"math"
	"slices"
	"testing"

	"wicket/admit"
	"wicket/api"
	"wicket/cache"
	"wicket/group"
	"wicket/home"
	"wicket/lock"
	"wicket/scan"
	"wicket/sector"
	"wicket/txn"
	"wicket/wal"
)

// chance tells numbers that look like chance and are the same in each run.
type chance uint64

func (c *chance) next() uint64 {
	*c ^= *c << 13
	*c ^= *c >> 7
	*c ^= *c << 17
	return uint64(*c)
}

// below tells one of 0 to n - 1.
func (c *chance) below(n int) int {
	return int(c.next() % uint64(n))
}

// filled tells a value whose bytes all are one.
func filled(n byte) api.Value {
	var v api.Value
	for i := range v {
		v[i] = n
	}
	return v
}

// is holds an error against another one.
func is(t *testing.T, got, want api.Errno) {
	t.Helper()
	if got != want {
		t.Fatalf("it answers %d, want %d", got, want)
	}
}

// same holds a row against another one, field by field.
func same(t *testing.T, got, want api.Row) {
	t.Helper()
	if got.Kind != want.Kind || got.Life != want.Life || got.Actor != want.Actor || got.Ticket != want.Ticket || got.Block != want.Block ||
		got.Value != want.Value || got.Position != want.Position || got.Count != want.Count || got.Err != want.Err || !slices.Equal(got.Set, want.Set) {
		t.Fatalf("the row %+v, want %+v", got, want)
	}
}

// side is a desk and the disk under its log.
type side struct {
	disk *sector.Disk
	desk group.Desk
}

// open makes a desk over a new disk, its log beginning at a position.
func open(t *testing.T, c api.Config, tail uint64) side {
	t.Helper()
	disk, e := home.New(c)
	is(t, e, api.OK)
	log, e := wal.Open(disk, c, tail, 1)
	is(t, e, api.OK)
	line, e := admit.New(c)
	is(t, e, api.OK)
	locks, e := lock.New(c.Blocks)
	is(t, e, api.OK)
	known, e := cache.New(c.Blocks)
	is(t, e, api.OK)
	s := side{disk: disk, desk: group.Desk{Log: log, Line: line, Locks: locks, Cache: known}}
	for i := range c.Clients {
		x, e := txn.New(i)
		is(t, e, api.OK)
		s.desk.Txns = append(s.desk.Txns, x)
	}
	return s
}

func (s side) copy() side {
	twin := side{disk: s.disk.Copy()}
	twin.desk = group.Desk{Log: s.desk.Log.Over(twin.disk), Line: s.desk.Line.Copy(), Locks: s.desk.Locks.Copy(), Cache: s.desk.Cache.Copy()}
	for _, x := range s.desk.Txns {
		twin.desk.Txns = append(twin.desk.Txns, x.Copy())
	}
	return twin
}

// clients tells the desk that its transactions work on; its store is what was acknowledged.
func (s side) clients() txn.Desk {
	return txn.Desk{Line: s.desk.Line, Locks: s.desk.Locks, Read: func(block int) api.Value {
		entry, _ := s.desk.Cache.Get(block)
		return entry.Value
	}}
}

// act is a step that a group has still to do.
type act struct {
	kind   int
	client int
	image  api.Image // Block -1: the commit
}

// model is a daemon by another hand: when a group is taken, all of its steps are laid out, and then done one by one on a side of its own.
type model struct {
	side
	line []int
	plan []act
	at   map[int]uint64 // the clients' last commits
}

func (m *model) copy() *model {
	return &model{side: m.side.copy(), line: slices.Clone(m.line), plan: slices.Clone(m.plan), at: maps.Clone(m.at)}
}

func (m *model) state() int {
	if len(m.plan) == 0 {
		return group.Idle
	}
	switch m.plan[0].kind {
	case api.RowAppended:
		return group.Appending
	case api.RowFlushed:
		return group.Flushing
	}
	return group.Acking
}

func (m *model) members() []int {
	var l []int
	for _, a := range m.plan {
		if a.kind == api.RowDone {
			l = append(l, a.client)
		}
	}
	return l
}

func (m *model) ask(client int) api.Errno {
	if client < 0 || slices.Contains(append(m.members(), m.line...), client) {
		return api.ErrInput
	}
	m.line = append(m.line, client)
	return api.OK
}

// step does the next step, or takes all back that it has done.
func (m *model) step() (api.Row, api.Errno) {
	if len(m.plan) == 0 && len(m.line) == 0 {
		return api.Row{}, api.ErrIdle
	}
	if len(m.plan) == 0 {
		n := len(m.line)
		m.lay()
		return api.Row{Kind: api.RowTaken, Block: -1, Count: n}, api.OK
	}
	was := m.side.copy()
	row, e := m.do(m.plan[0])
	if e != api.OK {
		m.side = was
		return api.Row{}, e
	}
	m.plan = m.plan[1:]
	return row, api.OK
}

// lay lays out all steps of the line's clients.
func (m *model) lay() {
	var ends []act
	for _, i := range m.line {
		if i < len(m.desk.Txns) {
			for _, image := range m.desk.Txns[i].Images() {
				m.plan = append(m.plan, act{kind: api.RowAppended, client: i, image: image})
			}
		}
		m.plan = append(m.plan, act{kind: api.RowAppended, client: i, image: api.Image{Block: -1}})
		ends = append(ends, act{kind: api.RowDone, client: i})
	}
	m.plan = append(append(m.plan, act{kind: api.RowFlushed}), ends...)
	m.line = nil
}

// do does a step by the words of the chapter, one call behind the other.
func (m *model) do(a act) (api.Row, api.Errno) {
	d := m.desk
	if a.kind == api.RowFlushed {
		n, e := d.Log.Flush()
		return api.Row{Kind: a.kind, Block: -1, Count: n}, e
	}
	if a.client >= len(d.Txns) || d.Txns[a.client] != nil && d.Txns[a.client].State() != api.Committing {
		return api.Row{}, api.ErrInput
	}
	x := d.Txns[a.client]
	if x == nil {
		return api.Row{}, api.ErrHandle
	}
	images := x.Images()
	row := api.Row{Kind: a.kind, Ticket: x.Ticket(), Block: -1, Count: len(images)}
	var e api.Errno
	switch {
	case a.kind == api.RowDone:
		row.Position = m.at[a.client]
		if e := d.Cache.Put(images, row.Position); e != api.OK {
			return row, e
		}
		if _, e := d.Locks.Drop(row.Ticket); e != api.OK {
			return row, e
		}
		return row, x.Done(txn.Desk{Line: d.Line, Locks: d.Locks})
	case a.image.Block < 0:
		if row.Position, e = d.Log.Commit(); e != api.OK {
			return row, e
		}
		m.at[a.client] = row.Position
		return row, d.Line.Done(row.Ticket)
	}
	row.Block, row.Value, row.Count = a.image.Block, a.image.Value, 0
	if row.Position, e = d.Log.Image(row.Block, row.Value); e != api.OK {
		return row, e
	}
	return row, d.Line.Append(row.Ticket)
}

// world is a daemon and its desk beside a model of them: each call is done with both.
type world struct {
	t *testing.T
	side
	g *group.Group
	m *model
	c api.Config
}

func worldAt(t *testing.T, c api.Config, tail uint64) *world {
	t.Helper()
	return &world{t: t, side: open(t, c, tail), g: group.New(), m: &model{side: open(t, c, tail), at: map[int]uint64{}}, c: c}
}

func newWorld(t *testing.T, c api.Config) *world {
	t.Helper()
	return worldAt(t, c, 0)
}

func (w *world) copy() *world {
	return &world{t: w.t, side: w.side.copy(), g: w.g.Copy(), m: w.m.copy(), c: w.c}
}

// both does the same with each side.
func (w *world) both(do func(s *side)) {
	do(&w.side)
	do(&w.m.side)
}

// tells holds all that a world tells against its model.
func (w *world) tells() {
	w.t.Helper()
	g, m := w.g, w.m
	if g.State() != m.state() || g.Enabled() != (len(m.plan)+len(m.line) > 0) {
		w.t.Fatalf("State %d, Enabled %v, want %d; %d steps are left, %v asked", g.State(), g.Enabled(), m.state(), len(m.plan), m.line)
	}
	if !slices.Equal(g.Line(), m.line) || !slices.Equal(g.Members(), m.members()) {
		w.t.Fatalf("Line %v, Members %v, want %v, %v", g.Line(), g.Members(), m.line, m.members())
	}
	w.tellsDisk()
	w.tellsLine()
	w.tellsLocks()
	w.tellsCache()
	w.tellsTxns()
}

func (w *world) tellsDisk() {
	w.t.Helper()
	a, b := w.desk.Log, w.m.desk.Log
	if a.Tail() != b.Tail() || a.End() != b.End() || a.Marked() != b.Marked() || a.Used() != b.Used() {
		w.t.Fatalf("the log: %d to %d, %d marked, want %d to %d, %d", a.Tail(), a.End(), a.Marked(), b.Tail(), b.End(), b.Marked())
	}
	for p := a.Tail(); p <= a.End(); p++ {
		got, e := a.Read(p)
		want, wantE := b.Read(p)
		if got != want || e != wantE {
			w.t.Fatalf("the log's record at %d: %+v, %d, want %+v, %d", p, got, e, want, wantE)
		}
	}
	if !bytes.Equal(w.disk.Image(), w.m.disk.Image()) {
		w.t.Fatal("another disk")
	}
	if !slices.EqualFunc(w.disk.Waiting(), w.m.disk.Waiting(), func(a, b sector.Write) bool { return a.Sector == b.Sector && bytes.Equal(a.Data, b.Data) }) {
		w.t.Fatal("other writes wait")
	}
}

func (w *world) tellsLine() {
	w.t.Helper()
	a, b := w.desk.Line, w.m.desk.Line
	if a.Used() != b.Used() || a.Reserved() != b.Reserved() || a.Fits() != b.Fits() {
		w.t.Fatalf("Used %d, Reserved %d, Fits %v, want %d, %d, %v", a.Used(), a.Reserved(), a.Fits(), b.Used(), b.Reserved(), b.Fits())
	}
	if !slices.Equal(a.Waiting(), b.Waiting()) || !slices.Equal(a.In(), b.In()) {
		w.t.Fatalf("Waiting %v, In %v, want %v, %v", a.Waiting(), a.In(), b.Waiting(), b.In())
	}
	for _, n := range b.In() {
		left, _ := a.Left(n)
		if want, _ := b.Left(n); left != want {
			w.t.Fatalf("Left(%d) = %d, want %d", n, left, want)
		}
	}
}

func (w *world) tellsLocks() {
	w.t.Helper()
	a, b := w.desk.Locks, w.m.desk.Locks
	for block := range w.c.Blocks {
		if !slices.Equal(a.Queue(block), b.Queue(block)) {
			w.t.Fatalf("Queue(%d) = %v, want %v", block, a.Queue(block), b.Queue(block))
		}
	}
	sets := map[uint64][]int{}
	for n, set := range a.All() {
		sets[n] = set
	}
	n := 0
	for ticket, set := range b.All() {
		n++
		if !slices.Equal(sets[ticket], set) || !slices.Equal(a.Held(ticket), b.Held(ticket)) {
			w.t.Fatalf("%d has %v of %v, want %v of %v", ticket, a.Held(ticket), sets[ticket], b.Held(ticket), set)
		}
	}
	if n != len(sets) {
		w.t.Fatalf("%d tickets are there, want %d", len(sets), n)
	}
}

func (w *world) tellsCache() {
	w.t.Helper()
	a, b := w.desk.Cache, w.m.desk.Cache
	last, put := a.Last()
	wantLast, wantPut := b.Last()
	if !slices.Equal(a.Entries(), b.Entries()) || last != wantLast || put != wantPut {
		w.t.Fatalf("the cache: %v, last %d %v, want %v, %d %v", a.Entries(), last, put, b.Entries(), wantLast, wantPut)
	}
}

func (w *world) tellsTxns() {
	w.t.Helper()
	if len(w.desk.Txns) != len(w.m.desk.Txns) {
		w.t.Fatalf("%d transactions, want %d", len(w.desk.Txns), len(w.m.desk.Txns))
	}
	for i, a := range w.desk.Txns {
		b := w.m.desk.Txns[i]
		if a.Client() != b.Client() || a.State() != b.State() || a.Ticket() != b.Ticket() || !slices.Equal(a.Set(), b.Set()) || !slices.Equal(a.Images(), b.Images()) {
			w.t.Fatalf("client %d: %d, %d, %d, %v, %v, want %d, %d, %d, %v, %v", i, a.Client(), a.State(), a.Ticket(), a.Set(), a.Images(), b.Client(), b.State(), b.Ticket(), b.Set(), b.Images())
		}
	}
}

// ask asks both.
func (w *world) ask(client int) api.Errno {
	w.t.Helper()
	e := w.g.Ask(client)
	if want := w.m.ask(client); e != want {
		w.t.Fatalf("Ask(%d) = %d, want %d", client, e, want)
	}
	w.tells()
	return e
}

// stepWith does a step with a desk, and one of the model with its own.
func (w *world) stepWith(d group.Desk) (api.Row, api.Errno) {
	w.t.Helper()
	from := w.g.State()
	row, e := w.g.Step(d)
	want, wantE := w.m.step()
	if e != wantE {
		w.t.Fatalf("Step in %d = %+v, %d, want %+v, %d", from, row, e, want, wantE)
	}
	same(w.t, row, want)
	w.goes(from, w.g.State(), row.Kind)
	w.tells()
	return row, e
}

// step does a step with both.
func (w *world) step() (api.Row, api.Errno) {
	w.t.Helper()
	return w.stepWith(w.desk)
}

// goes holds a change of the state against the chapter, and against the row that tells of it.
func (w *world) goes(from, to, kind int) {
	w.t.Helper()
	may := kind == 0 && from == to ||
		kind == api.RowTaken && from == group.Idle && to == group.Appending ||
		kind == api.RowAppended && from == group.Appending && (to == group.Appending || to == group.Flushing) ||
		kind == api.RowFlushed && from == group.Flushing && to == group.Acking ||
		kind == api.RowDone && from == group.Acking && (to == group.Acking || to == group.Idle)
	if !may {
		w.t.Fatalf("from %d to %d by a row of %d", from, to, kind)
	}
}

// steps does so many steps, none of which is refused.
func (w *world) steps(n int) *world {
	w.t.Helper()
	for range n {
		_, e := w.step()
		is(w.t, e, api.OK)
	}
	return w
}

// fails does a step that is refused.
func (w *world) fails(want api.Errno) {
	w.t.Helper()
	if _, e := w.step(); e != want {
		w.t.Fatalf("Step in %d answers %d, want %d", w.g.State(), e, want)
	}
}

// refused does a step with a desk that both the chapter and a test say is refused; the model does none.
func (w *world) refused(d group.Desk, want api.Errno) {
	w.t.Helper()
	row, e := w.g.Step(d)
	if e != want {
		w.t.Fatalf("Step in %d answers %d, want %d", w.g.State(), e, want)
	}
	same(w.t, row, api.Row{})
	w.tells()
}

// client does a step of a client's with both.
func (w *world) client(i int, op *api.Op) api.Row {
	w.t.Helper()
	row, used, e := w.desk.Txns[i].Step(w.clients(), op)
	want, wantUsed, wantE := w.m.desk.Txns[i].Step(w.m.clients(), op)
	if used != wantUsed || e != wantE {
		w.t.Fatalf("client %d: %+v, %v, %d, want %+v, %v, %d", i, row, used, e, want, wantUsed, wantE)
	}
	same(w.t, row, want)
	w.tells()
	return row
}

func write(block int, v api.Value) *api.Op {
	return &api.Op{Kind: api.OpWrite, Block: block, Value: v}
}

// to brings a client in None to a state, with a set.
func (w *world) to(i, state int, set ...int) {
	w.t.Helper()
	if state >= api.Waiting {
		w.client(i, &api.Op{Kind: api.OpBegin, Set: set})
	}
	if state >= api.Locking {
		w.client(i, nil)
	}
	for range set {
		if state >= api.Active {
			w.client(i, nil)
		}
	}
	if state >= api.Committing {
		w.client(i, &api.Op{Kind: api.OpCommit})
	}
	if got := w.desk.Txns[i].State(); got != state {
		w.t.Fatalf("client %d is in %d, want %d", i, got, state)
	}
}

// commits brings a client to its commit, with a set of which it writes some blocks in an order, and lets it ask.
func (w *world) commits(i int, set []int, writes ...int) {
	w.t.Helper()
	w.to(i, api.Active, set...)
	for _, b := range writes {
		w.client(i, write(b, filled(byte(10*i+b+1))))
	}
	w.client(i, &api.Op{Kind: api.OpCommit})
	is(w.t, w.ask(i), api.OK)
}

// free gives all of the log that was acknowledged free, as a checkpointer does.
func (w *world) free() {
	w.t.Helper()
	w.both(func(s *side) {
		last, put := s.desk.Cache.Last()
		if !put || last < s.desk.Log.Tail() {
			return
		}
		is(w.t, s.desk.Log.Mark(last+1), api.OK)
		n, e := s.desk.Log.Free()
		is(w.t, e, api.OK)
		is(w.t, s.desk.Line.Freed(n), api.OK)
		s.desk.Cache.Drop(s.desk.Cache.Entries())
	})
	w.tells()
}

// usual is a configuration with room for all that the tests below commit.
func usual() api.Config {
	return api.Config{Blocks: 8, LogCap: 20, MaxRes: 3, High: 20, Clients: 4}
}

// three is a world in which three clients ask: 2 has written one block, 0 two, in falling order, 1 none.
func three(t *testing.T) *world {
	t.Helper()
	w := newWorld(t, usual())
	w.commits(2, []int{5, 4}, 4)
	w.commits(0, []int{0, 1, 3}, 3, 1)
	w.commits(1, []int{6, 2})
	return w
}

// allSteps is how many steps the group of three has: it is taken; its records, by their clients 2, 3, 1; the flush; three are acknowledged.
const allSteps = 1 + 2 + 3 + 1 + 1 + 3

// needs tells which client of three a step works on; -1: none.
func needs(step int) int {
	return []int{-1, 2, 2, 0, 0, 0, 1, -1, 2, 0, 1}[step]
}

// stateOf tells the state of three behind so many steps.
func stateOf(steps int) int {
	return []int{1, 2, 2, 2, 2, 2, 2, 3, 4, 4, 4, 1}[steps]
}

func TestP19_1_New(t *testing.T) {
	g := group.New()
	if g == nil || g.State() != group.Idle || len(g.Line()) != 0 || len(g.Members()) != 0 || g.Enabled() {
		t.Fatalf("New: %v", g)
	}
	other := group.New()
	is(t, g.Ask(3), api.OK)
	if len(other.Line()) != 0 || other.Enabled() {
		t.Errorf("another one has %v", other.Line())
	}
	if group.Idle != 1 || group.Appending != 2 || group.Flushing != 3 || group.Acking != 4 {
		t.Error("other states")
	}
}

func TestP19_1_AskOfNumbers(t *testing.T) {
	w := newWorld(t, usual())
	for _, client := range []int{-1, -2, -8, -256, math.MinInt, math.MinInt + 1, ^0, math.MinInt + 4} {
		is(t, w.ask(client), api.ErrInput)
	}
	if w.g.Enabled() {
		t.Error("enabled by nobody")
	}
	all := []int{0, 7, 8, 255, 256, 1 << 16, 1 << 31, 1 << 32, 1 << 62, math.MaxInt - 1, math.MaxInt, 3, 1}
	for _, client := range all {
		is(t, w.ask(client), api.OK)
		is(t, w.ask(client), api.ErrInput)
		is(t, w.ask(-1), api.ErrInput)
	}
	for _, client := range all {
		is(t, w.ask(client), api.ErrInput)
	}
	if l := w.g.Line(); !slices.Equal(l, all) {
		t.Errorf("Line = %v", l)
	}
}

func TestP19_1_ManyAsk(t *testing.T) {
	w := newWorld(t, usual())
	for n := range 300 {
		is(t, w.ask(n*7%300), api.OK)
	}
	row, e := w.step()
	is(t, e, api.OK)
	same(t, row, api.Row{Kind: api.RowTaken, Block: -1, Count: 300})
	for n := range 300 {
		is(t, w.ask(n), api.ErrInput)
		is(t, w.ask(1000-n), api.OK)
	}
	// None of the first ones commits: the step is refused, again and again.
	for range 3 {
		w.fails(api.ErrInput)
	}
}

func TestP19_1_AskInEachState(t *testing.T) {
	for n := range allSteps + 1 {
		w := three(t).steps(n)
		if s := w.g.State(); s != stateOf(n) {
			t.Fatalf("behind %d steps its state is %d", n, s)
		}
		acknowledged := max(0, n-(allSteps-3))
		for place, client := range []int{2, 0, 1} {
			want := api.ErrInput
			if place < acknowledged {
				want = api.OK
			}
			is(t, w.ask(client), want)
			is(t, w.ask(client), api.ErrInput)
		}
		is(t, w.ask(3), api.OK)
		is(t, w.ask(3), api.ErrInput)
		is(t, w.ask(-1), api.ErrInput)
		is(t, w.ask(9), api.OK)
		if !w.g.Enabled() {
			t.Error("not enabled")
		}
	}
}

func TestP19_1_LineAndMembers(t *testing.T) {
	w := three(t)
	want := func(line, members []int) {
		t.Helper()
		if !slices.Equal(w.g.Line(), line) || !slices.Equal(w.g.Members(), members) {
			t.Fatalf("Line %v, Members %v, want %v, %v", w.g.Line(), w.g.Members(), line, members)
		}
	}
	want([]int{2, 0, 1}, nil)
	w.steps(1)
	want(nil, []int{2, 0, 1})
	w.steps(3)
	w.commits(3, []int{7}, 7)
	want([]int{3}, []int{2, 0, 1})
	w.steps(4)
	want([]int{3}, []int{2, 0, 1})
	w.steps(1)
	want([]int{3}, []int{0, 1})
	w.steps(1)
	w.commits(2, []int{4})
	want([]int{3, 2}, []int{1})
	w.steps(1)
	want([]int{3, 2}, nil)
	if w.g.State() != group.Idle || !w.g.Enabled() {
		t.Error("not idle with a line")
	}
	w.steps(1)
	want(nil, []int{3, 2})
	w.steps(6)
	want(nil, nil)
	w.fails(api.ErrIdle)
}

func TestP19_1_CopiesInEachState(t *testing.T) {
	for n := range allSteps + 1 {
		w := three(t).steps(n)
		a := w.copy()
		b := a.copy()
		c := b.copy()
		all := []*world{w, a, b, c}
		quiet := func() {
			for _, x := range all {
				x.tells()
			}
		}
		quiet()
		w.steps(allSteps - n)
		quiet()
		a.commits(3, []int{7}, 7)
		quiet()
		for a.g.Enabled() {
			a.steps(1)
			quiet()
		}
		b.steps(allSteps - n)
		quiet()
		is(t, b.ask(5), api.OK)
		is(t, b.ask(6), api.OK)
		quiet()
		is(t, c.ask(6), api.OK)
		quiet()
		c.steps(1)
		quiet()
		w.fails(api.ErrIdle)
	}
}

func TestP19_1_CopiesShareNoRoom(t *testing.T) {
	// Lists that have grown have room behind them: a copy that shared it would see the other's next one.
	for n := range 20 {
		g := group.New()
		for i := range n {
			is(t, g.Ask(i), api.OK)
		}
		a, b := g.Copy(), g.Copy()
		is(t, g.Ask(100), api.OK)
		is(t, a.Ask(101), api.OK)
		is(t, b.Ask(102), api.OK)
		for i, x := range []*group.Group{g, a, b} {
			if l := x.Line(); len(l) != n+1 || l[n] != 100+i {
				t.Errorf("%d: Line = %v", i, l)
			}
		}
	}
}

func TestP19_1_Nil(t *testing.T) {
	var g *group.Group
	w := three(t)
	for _, client := range []int{0, 1, -1, math.MinInt, math.MaxInt} {
		is(t, g.Ask(client), api.ErrHandle)
	}
	if g.State() != 0 || len(g.Line()) != 0 || len(g.Members()) != 0 || g.Enabled() || g.Copy() != nil {
		t.Errorf("nil: %d, %v, %v, %v, %v", g.State(), g.Line(), g.Members(), g.Enabled(), g.Copy())
	}
	for _, d := range append(w.broken(), w.desk, group.Desk{}) {
		row, e := g.Step(d)
		is(t, e, api.ErrHandle)
		same(t, row, api.Row{})
	}
	w.tells()
}

// broken tells desks of which something is nil that every step asks for.
func (w *world) broken() []group.Desk {
	l := slices.Repeat([]group.Desk{w.desk}, 5)
	l[0].Log = nil
	l[1].Line = nil
	l[2].Locks = nil
	l[3].Cache = nil
	l[4] = group.Desk{Txns: w.desk.Txns}
	return l
}

func TestP19_2_IdleAndNothingAsked(t *testing.T) {
	w := newWorld(t, usual())
	w.fails(api.ErrIdle)
	for _, txns := range [][]*txn.Txn{nil, {}, {nil}, slices.Repeat([]*txn.Txn{nil}, 4)} {
		d := w.desk
		d.Txns = txns
		w.refused(d, api.ErrIdle)
	}
	// What is nil goes ahead of that there is no step.
	for _, d := range w.broken() {
		w.refused(d, api.ErrHandle)
	}
	v := three(t).steps(allSteps)
	v.fails(api.ErrIdle)
	for _, d := range v.broken() {
		v.refused(d, api.ErrHandle)
	}
}

func TestP19_2_NilOfTheDesk(t *testing.T) {
	for n := range allSteps {
		w := three(t).steps(n)
		for _, d := range w.broken() {
			w.refused(d, api.ErrHandle)
			// It goes ahead of a client that is none, and of one that does not commit.
			d.Txns = nil
			w.refused(d, api.ErrHandle)
			d.Txns = slices.Repeat([]*txn.Txn{nil}, 4)
			w.refused(d, api.ErrHandle)
		}
		w.steps(allSteps - n)
	}
}

func TestP19_2_Txns(t *testing.T) {
	for n := range allSteps {
		w := three(t).steps(n)
		needed := needs(n)
		with := func(txns []*txn.Txn, want api.Errno) {
			t.Helper()
			d := w.desk
			d.Txns = txns
			if needed < 0 {
				w.copyWith(txns)
				return
			}
			w.refused(d, want)
		}
		with(nil, api.ErrInput)
		with([]*txn.Txn{}, api.ErrInput)
		for few := range max(needed, 0) + 1 {
			with(w.desk.Txns[:few], api.ErrInput)
			with(make([]*txn.Txn, few), api.ErrInput)
		}
		if needed >= 0 {
			lacking := slices.Clone(w.desk.Txns)
			lacking[needed] = nil
			with(lacking, api.ErrHandle)
			with(lacking[:needed+1], api.ErrHandle)
		}
		with(make([]*txn.Txn, 4), api.ErrHandle)
		// All that are not needed may be nil, or lacking behind it.
		d := w.desk
		d.Txns = make([]*txn.Txn, needed+1)
		if needed >= 0 {
			d.Txns[needed] = w.desk.Txns[needed]
		}
		_, e := w.stepWith(d)
		is(t, e, api.OK)
		w.steps(allSteps - n - 1)
	}
}

// copyWith does a step of a copy with these transactions: the step needs none of them.
func (w *world) copyWith(txns []*txn.Txn) {
	w.t.Helper()
	twin := w.copy()
	d := twin.desk
	d.Txns = txns
	_, e := twin.stepWith(d)
	is(w.t, e, api.OK)
	w.tells()
}

func TestP19_2_StatesOfTheTransaction(t *testing.T) {
	for n := range allSteps {
		for _, state := range []int{api.None, api.Waiting, api.Locking, api.Active} {
			w := three(t).steps(n)
			// Another run's transaction of the same client, in another state.
			v := newWorld(t, usual())
			for i := range 3 {
				v.to(i, state, i)
			}
			d := w.desk
			d.Txns = v.desk.Txns
			if needs(n) < 0 {
				w.copyWith(v.desk.Txns)
				continue
			}
			w.refused(d, api.ErrInput)
			v.tells()
			w.steps(allSteps - n)
		}
	}
	// Who asks need not commit yet: the group is taken, and waits for it.
	w := newWorld(t, usual())
	for i, state := range []int{api.None, api.Waiting, api.Locking, api.Active} {
		w.to(i, state, 7-i)
		is(t, w.ask(i), api.OK)
		if state == api.Waiting {
			w.client(i, nil)
		}
	}
	w.steps(1)
	w.fails(api.ErrInput)
	w.fails(api.ErrInput)
}

func TestP19_2_AskedAheadOfItsCommit(t *testing.T) {
	w := newWorld(t, usual())
	w.to(0, api.Active, 3)
	is(t, w.ask(0), api.OK)
	w.client(0, write(3, filled(1)))
	w.steps(1)
	w.fails(api.ErrInput)
	w.client(0, &api.Op{Kind: api.OpCommit})
	w.steps(4)
	w.fails(api.ErrIdle)
}

func TestP19_2_ClientsThatAreNone(t *testing.T) {
	for _, client := range []int{4, 5, 8, 256, 1 << 32, math.MaxInt} {
		w := newWorld(t, usual())
		w.commits(0, []int{0}, 0)
		is(t, w.ask(client), api.OK)
		w.steps(1)
		w.steps(2)
		w.fails(api.ErrInput)
		w.fails(api.ErrInput)
		if s := w.g.State(); s != group.Appending {
			t.Errorf("its state is %d", s)
		}
	}
}

func TestP19_2_EachRow(t *testing.T) {
	w := three(t)
	value := func(i, b int) api.Value { return filled(byte(10*i + b + 1)) }
	rows := []api.Row{
		{Kind: api.RowTaken, Block: -1, Count: 3},
		{Kind: api.RowAppended, Ticket: 1, Block: 4, Value: value(2, 4), Position: 0},
		{Kind: api.RowAppended, Ticket: 1, Block: -1, Position: 1, Count: 1},
		{Kind: api.RowAppended, Ticket: 2, Block: 1, Value: value(0, 1), Position: 2},
		{Kind: api.RowAppended, Ticket: 2, Block: 3, Value: value(0, 3), Position: 3},
		{Kind: api.RowAppended, Ticket: 2, Block: -1, Position: 4, Count: 2},
		{Kind: api.RowAppended, Ticket: 3, Block: -1, Position: 5, Count: 0},
		{Kind: api.RowFlushed, Block: -1, Count: 6},
		{Kind: api.RowDone, Ticket: 1, Block: -1, Position: 1, Count: 1},
		{Kind: api.RowDone, Ticket: 2, Block: -1, Position: 4, Count: 2},
		{Kind: api.RowDone, Ticket: 3, Block: -1, Position: 5, Count: 0},
	}
	for n, want := range rows {
		row, e := w.step()
		is(t, e, api.OK)
		same(t, row, want)
		if s := w.g.State(); s != stateOf(n+1) {
			t.Fatalf("behind %d steps its state is %d", n+1, s)
		}
	}
	want := []cache.Entry{{Block: 1, Value: value(0, 1), Position: 4}, {Block: 3, Value: value(0, 3), Position: 4}, {Block: 4, Value: value(2, 4), Position: 1}}
	if l := w.desk.Cache.Entries(); !slices.Equal(l, want) {
		t.Errorf("the cache has %v", l)
	}
	if last, put := w.desk.Cache.Last(); last != 5 || !put {
		t.Errorf("the last one was %d, %v", last, put)
	}
	for i := range 3 {
		if x := w.desk.Txns[i]; x.State() != api.None || x.Ticket() != 0 {
			t.Errorf("client %d is in %d", i, x.State())
		}
	}
	for n := range w.desk.Locks.All() {
		t.Errorf("ticket %d is there", n)
	}
}

func TestP19_2_WhatEachStepChanges(t *testing.T) {
	w := three(t)
	// Used, Reserved, how many writes wait, and how many tickets have locks, behind each step.
	after := [][4]int{
		{0, 10, 0, 3}, {1, 9, 1, 3}, {2, 7, 2, 3}, {3, 6, 3, 3}, {4, 5, 4, 3}, {5, 3, 5, 3}, {6, 0, 6, 3},
		{6, 0, 0, 3}, {6, 0, 0, 2}, {6, 0, 0, 1}, {6, 0, 0, 0},
	}
	for n, want := range after {
		w.steps(1)
		there := 0
		for range w.desk.Locks.All() {
			there++
		}
		if got := [4]int{w.desk.Line.Used(), w.desk.Line.Reserved(), len(w.disk.Waiting()), there}; got != want {
			t.Errorf("behind step %d: %v, want %v", n, got, want)
		}
		if used := w.desk.Log.Used(); used != want[0] {
			t.Errorf("the log has %d records", used)
		}
	}
}

func TestP19_2_OthersWritesAreFlushedToo(t *testing.T) {
	w := newWorld(t, usual())
	w.commits(0, []int{2}, 2)
	w.steps(3)
	w.both(func(s *side) {
		is(t, home.Save(s.disk, w.c, 5, filled(8)), api.OK)
		is(t, home.Save(s.disk, w.c, 5, filled(9)), api.OK)
	})
	row, e := w.step()
	is(t, e, api.OK)
	same(t, row, api.Row{Kind: api.RowFlushed, Block: -1, Count: 4})
	// One that somebody else has flushed already: nothing waits.
	w.steps(1)
	w.commits(0, []int{2}, 2)
	w.steps(3)
	w.both(func(s *side) { s.disk.Flush() })
	row, e = w.step()
	is(t, e, api.OK)
	same(t, row, api.Row{Kind: api.RowFlushed, Block: -1})
}

func TestP19_2_GroupsOfOneToAll(t *testing.T) {
	c := api.Config{Blocks: 16, LogCap: 40, MaxRes: 3, High: 20, Clients: 8}
	for n := 1; n <= 8; n++ {
		w := newWorld(t, c)
		for i := range n {
			w.commits((i*3+1)%8, []int{2*i + 1, 2 * i}, []int{2*i + 1, 2 * i}[:i%3]...)
		}
		row, _ := w.step()
		same(t, row, api.Row{Kind: api.RowTaken, Block: -1, Count: n})
		for w.g.Enabled() {
			w.steps(1)
		}
	}
}

func TestP19_2_TheGreatestTransaction(t *testing.T) {
	c := api.Config{Blocks: 64, LogCap: 17, MaxRes: 16, High: 17, Clients: 1}
	w := newWorld(t, c)
	for range 3 {
		var set []int
		for b := range 16 {
			set = append(set, 63-4*b)
		}
		w.commits(0, set, set...)
		w.steps(1 + 17 + 1 + 1)
		w.fails(api.ErrIdle)
		w.free()
	}
}

// fill fills the log with commits of nobody's up to so many free slots.
func (w *world) fill(free int) {
	w.t.Helper()
	w.both(func(s *side) {
		for s.desk.Log.Used() < w.c.LogCap-free {
			_, e := s.desk.Log.Commit()
			is(w.t, e, api.OK)
		}
	})
	w.tells()
}

// gone takes a ticket out of the line on both sides.
func (w *world) gone(ticket uint64) {
	w.t.Helper()
	w.both(func(s *side) { is(w.t, s.desk.Line.Done(ticket), api.OK) })
	w.tells()
}

// slots gives all slots of the log free.
func (w *world) slots() {
	w.t.Helper()
	w.both(func(s *side) {
		is(w.t, s.desk.Log.Mark(s.desk.Log.End()), api.OK)
		s.desk.Log.Free()
	})
	w.tells()
}

func TestP19_2_TheLogIsFull(t *testing.T) {
	// The group's records are those of steps 1 to 6.
	for n := 1; n <= 6; n++ {
		w := three(t).steps(n)
		w.fill(0)
		w.fails(api.ErrFull)
		w.fails(api.ErrFull)
		w.slots()
		w.steps(allSteps - n)
		w.fails(api.ErrIdle)
	}
}

func TestP19_2_SlotsRunOutWithinATransaction(t *testing.T) {
	for free := range 4 {
		w := newWorld(t, usual())
		w.commits(0, []int{0, 1, 3}, 3, 1, 0)
		w.fill(free)
		w.steps(1 + free)
		w.fails(api.ErrFull)
		end := w.desk.Log.End()
		w.fails(api.ErrFull)
		if w.desk.Log.End() != end || w.g.State() != group.Appending {
			t.Error("a refused step has changed something")
		}
		w.both(func(s *side) {
			is(t, s.desk.Log.Mark(s.desk.Log.Tail()+10), api.OK)
			s.desk.Log.Free()
		})
		w.steps(4 - free + 1)
		row, e := w.step()
		is(t, e, api.OK)
		same(t, row, api.Row{Kind: api.RowDone, Ticket: 1, Block: -1, Position: uint64(20 - free + 3), Count: 3})
	}
}

func TestP19_2_TheLogsErrors(t *testing.T) {
	// Positions that run out.
	for left := range 3 {
		w := worldAt(t, usual(), api.MaxPos-uint64(left))
		w.commits(0, []int{0, 1, 3}, 3, 1)
		w.steps(1 + left)
		w.fails(api.ErrWrap)
		w.fails(api.ErrWrap)
	}
	// An image of nobody's that is not below the next one; one that is leaves room for it.
	for block, want := range map[int]api.Errno{0: api.OK, 1: api.ErrRecord, 2: api.ErrRecord, 7: api.ErrRecord} {
		w := newWorld(t, usual())
		w.commits(0, []int{1}, 1)
		w.both(func(s *side) {
			_, e := s.desk.Log.Image(block, filled(7))
			is(t, e, api.OK)
		})
		w.steps(1)
		w.fails(want)
	}
	// A log of fewer blocks, and one in which fewer may be reserved.
	small := usual()
	small.Blocks = 4
	w := newWorld(t, usual())
	w.commits(0, []int{3, 4}, 3, 4)
	w.logOf(small)
	w.steps(2)
	w.fails(api.ErrRecord)
	few := usual()
	few.MaxRes = 2
	v := newWorld(t, usual())
	v.commits(0, []int{1, 3, 4}, 4, 3, 1)
	v.logOf(few)
	v.steps(3)
	v.fails(api.ErrRecord)
}

// logOf lays a new log of another configuration onto the desk.
func (w *world) logOf(c api.Config) {
	w.t.Helper()
	w.both(func(s *side) {
		other := open(w.t, c, 0)
		s.disk, s.desk.Log = other.disk, other.desk.Log
	})
	w.tells()
}

func TestP19_2_ALogWithoutADisk(t *testing.T) {
	for n := range allSteps {
		w := three(t).steps(n)
		d := w.desk
		d.Log = w.desk.Log.Over(nil)
		switch w.g.State() {
		case group.Appending, group.Flushing:
			w.refused(d, api.ErrHandle)
			w.refused(d, api.ErrHandle)
		default:
			// It is not asked for it.
			_, e := w.stepWith(d)
			is(t, e, api.OK)
			n++
		}
		w.steps(allSteps - n)
	}
}

func TestP19_2_TheLinesErrors(t *testing.T) {
	tickets := map[int]uint64{2: 1, 0: 2, 1: 3}
	for n := 1; n <= 6; n++ {
		w := three(t).steps(n)
		w.gone(tickets[needs(n)])
		w.fails(api.ErrTicket)
		w.fails(api.ErrTicket)
		if s := w.g.State(); s != group.Appending {
			t.Errorf("its state is %d", s)
		}
	}
	// A line of another run.
	w := three(t).steps(1)
	d := w.desk
	d.Line = open(t, usual(), 0).desk.Line
	w.refused(d, api.ErrTicket)
	if d.Line.Used() != 0 {
		t.Error("another run's line was told")
	}
	// Images of nobody's are told of it: only its commit is left.
	v := newWorld(t, usual())
	v.commits(0, []int{0, 1}, 0, 1)
	v.steps(1)
	v.both(func(s *side) { is(t, s.desk.Line.Append(1), api.OK) })
	v.steps(1)
	v.fails(api.ErrRoom)
	v.fails(api.ErrRoom)
	// Of a commit that is no error.
	x := newWorld(t, usual())
	x.commits(0, []int{0, 1})
	x.both(func(s *side) {
		is(t, s.desk.Line.Append(1), api.OK)
		is(t, s.desk.Line.Append(1), api.OK)
	})
	x.steps(4)
	x.fails(api.ErrIdle)
}

func TestP19_2_TheLogsErrorGoesFirst(t *testing.T) {
	for _, images := range []int{0, 1, 2} {
		for done := range images + 1 {
			ready := func() *world {
				w := newWorld(t, usual())
				w.commits(0, []int{2, 4}, []int{2, 4}[:images]...)
				w.steps(1 + done)
				return w
			}
			full := ready()
			full.fill(0)
			full.gone(1)
			full.fails(api.ErrFull)
			full.slots()
			full.fails(api.ErrTicket)

			none := ready()
			none.gone(1)
			d := none.desk
			d.Log = d.Log.Over(nil)
			none.refused(d, api.ErrHandle)
			none.fails(api.ErrTicket)

			last := worldAt(t, usual(), api.MaxPos-uint64(done))
			last.commits(0, []int{2, 4}, []int{2, 4}[:images]...)
			last.steps(1 + done)
			last.gone(1)
			last.fails(api.ErrWrap)

			if done == images {
				continue
			}
			torn := ready()
			torn.both(func(s *side) { s.desk.Log.Image(7, filled(3)) })
			torn.gone(1)
			torn.fails(api.ErrRecord)
			torn.fails(api.ErrRecord)
		}
	}
	// A room that has run out comes behind the log's error too.
	w := newWorld(t, usual())
	w.commits(0, []int{0}, 0)
	w.both(func(s *side) { is(t, s.desk.Line.Append(1), api.OK) })
	w.steps(1)
	w.fails(api.ErrRoom)
	w.fill(0)
	w.fails(api.ErrFull)
}

func TestP19_2_RefusedByTheGreatestLog(t *testing.T) {
	// The log's last slot stands in the last sector of the greatest disk.
	c := api.Config{Blocks: 64, LogCap: 64, MaxRes: 16, High: 64, Clients: 1}
	for at := range uint64(130) {
		w := worldAt(t, c, at)
		w.commits(0, []int{63}, 63)
		w.steps(1)
		w.gone(1)
		w.fails(api.ErrTicket)
		v := worldAt(t, c, at)
		v.commits(0, []int{63})
		v.steps(1)
		v.gone(1)
		v.fails(api.ErrTicket)
	}
}

func TestP19_2_AckingIsRefused(t *testing.T) {
	at := func() *world { return three(t).steps(allSteps - 3) }
	// A position that is not above the cache's last.
	for _, last := range []uint64{1, 2, 100, api.MaxPos} {
		w := at()
		w.both(func(s *side) { is(t, s.desk.Cache.Put(nil, last), api.OK) })
		w.fails(api.ErrRing)
		w.fails(api.ErrRing)
		if !slices.Equal(w.g.Members(), []int{2, 0, 1}) || w.desk.Txns[2].State() != api.Committing {
			t.Error("a refused step has changed something")
		}
	}
	below := at()
	below.both(func(s *side) { is(t, s.desk.Cache.Put(nil, 0), api.OK) })
	below.steps(3)
	// A cache of fewer blocks.
	w := at()
	w.cacheOf(4)
	w.fails(api.ErrBlock)
	w.cacheOf(5)
	w.steps(3)
	// Locks that the ticket is not in.
	v := at()
	v.both(func(s *side) { s.desk.Locks.Drop(1) })
	v.fails(api.ErrTicket)
	v.fails(api.ErrTicket)
	if v.desk.Cache.Len() != 0 {
		t.Error("the cache has taken what was refused")
	}
	// The cache's error goes first.
	v.cacheOf(4)
	v.fails(api.ErrBlock)
	v.cacheOf(8)
	v.both(func(s *side) { s.desk.Cache.Put(nil, 7) })
	v.fails(api.ErrRing)
}

// cacheOf lays a new cache of so many blocks onto the desk.
func (w *world) cacheOf(blocks int) {
	w.t.Helper()
	w.both(func(s *side) {
		x, e := cache.New(blocks)
		is(w.t, e, api.OK)
		s.desk.Cache = x
	})
	w.tells()
}

func TestP19_2_RefusedInTheMidst(t *testing.T) {
	// The second one of the acknowledged is refused: the first one stays done.
	w := three(t).steps(allSteps - 2)
	w.both(func(s *side) { is(t, s.desk.Cache.Put(nil, 4), api.OK) })
	w.fails(api.ErrRing)
	w.cacheOf(8)
	w.steps(2)
	w.fails(api.ErrIdle)
}

func TestP19_2_LocksOfAnotherRun(t *testing.T) {
	// The ticket has locked nothing there, and goes all the same.
	w := newWorld(t, usual())
	w.commits(0, []int{2}, 2)
	w.steps(4)
	w.both(func(s *side) {
		l, e := lock.New(8)
		is(t, e, api.OK)
		is(t, l.Lay(1, []int{3, 6}), api.OK)
		is(t, l.Lay(2, []int{6}), api.OK)
		s.desk.Locks = l
	})
	w.steps(1)
	if q := w.desk.Locks.Queue(6); !slices.Equal(q, []uint64{2}) {
		t.Errorf("the queue is %v", q)
	}
}

func TestP19_3_HowManySteps(t *testing.T) {
	c := chance(3)
	cfg := api.Config{Blocks: 16, LogCap: 60, MaxRes: 4, High: 20, Clients: 8}
	for range 60 {
		w := newWorld(t, cfg)
		records, clients := 0, 1+c.below(8)
		for i := range clients {
			set := []int{2 * i, 2*i + 1}
			writes := set[:c.below(3)]
			w.commits(i, set, writes...)
			records += len(writes) + 1
		}
		want := 1 + records + 1 + clients
		later := 100
		for n := range want {
			if !w.g.Enabled() || n > 0 && w.g.State() == group.Idle {
				t.Fatalf("idle behind %d steps of %d", n, want)
			}
			w.steps(1)
			// Who asks from now on is none of this group's and costs it no step.
			for range c.below(3) {
				is(t, w.ask(later), api.OK)
				later++
			}
		}
		if w.g.State() != group.Idle || len(w.g.Members()) != 0 {
			t.Fatalf("not idle behind %d steps", want)
		}
		for i := range clients {
			if s := w.desk.Txns[i].State(); s != api.None {
				t.Errorf("client %d is in %d", i, s)
			}
		}
	}
}

// durable tells the transactions that a crash without any kept write leaves in the log.
func (w *world) durable() []scan.Tx {
	w.t.Helper()
	disk := w.disk.Copy()
	disk.Crash()
	found, e := scan.Read(disk, w.c)
	is(w.t, e, api.OK)
	return found.Txs
}

func TestP19_4_OrderOnTheDisk(t *testing.T) {
	c := chance(11)
	cfg := api.Config{Blocks: 16, LogCap: 60, MaxRes: 4, High: 20, Clients: 8}
	for range 40 {
		w := newWorld(t, cfg)
		var order []int
		for i := range 8 {
			order = slices.Insert(order, c.below(i+1), i)
		}
		images := map[int][]api.Image{}
		for _, i := range order {
			w.commits(i, []int{2 * i, 2*i + 1}, []int{2*i + 1, 2 * i}[:c.below(3)]...)
			images[i] = w.desk.Txns[i].Images()
			// Some are asked for in one group, some in the next.
			for range c.below(3) {
				w.steps(1)
			}
		}
		done := 0
		for w.g.Enabled() {
			row, e := w.step()
			is(t, e, api.OK)
			if row.Kind != api.RowDone {
				continue
			}
			found := w.durable()
			if len(found) < done+1 {
				t.Fatalf("%d are acknowledged and %d durable", done+1, len(found))
			}
			done++
		}
		found := w.durable()
		if len(found) != 8 {
			t.Fatalf("%d were found", len(found))
		}
		for n, x := range found {
			if !slices.Equal(x.Images, images[order[n]]) {
				t.Errorf("the transaction at %d has %v, want %v", x.Position, x.Images, images[order[n]])
			}
		}
	}
}

func TestP19_4_NothingAheadOfTheFlush(t *testing.T) {
	for n := range allSteps {
		w := three(t).steps(n)
		found := len(w.durable())
		want := 0
		if n >= allSteps-3 {
			want = 3
		}
		if found != want {
			t.Errorf("behind %d steps %d are durable", n, found)
		}
		if n <= allSteps-3 && (w.desk.Cache.Len() > 0 || w.desk.Txns[2].State() != api.Committing || len(w.desk.Locks.Held(1)) != 2) {
			t.Errorf("behind %d steps one is acknowledged", n)
		}
	}
}

// turn does one of a few things with a world: a client's next step towards its commit, or the daemon's.
func (w *world) turn(who int) {
	w.t.Helper()
	if who >= len(w.desk.Txns) {
		w.step()
		return
	}
	x := w.desk.Txns[who]
	switch {
	case x.State() == api.None:
		w.client(who, &api.Op{Kind: api.OpBegin, Set: []int{who, 1}})
	case x.State() == api.Active && len(x.Images()) == 0:
		w.client(who, write(1, filled(byte(who+3))))
	case x.State() == api.Active:
		w.client(who, &api.Op{Kind: api.OpCommit})
		is(w.t, w.ask(who), api.OK)
	case x.State() != api.Committing:
		w.client(who, nil)
	default:
		is(w.t, w.ask(who), api.ErrInput)
	}
}

// allRuns does all runs of so many turns.
func allRuns(w *world, turns int) int {
	if turns == 0 {
		return 1
	}
	n := 0
	for who := range len(w.desk.Txns) + 1 {
		x := w.copy()
		x.turn(who)
		n += allRuns(x, turns-1)
	}
	w.tells()
	return n
}

func TestP19_2_AllShortRuns(t *testing.T) {
	c := api.Config{Blocks: 2, LogCap: 6, MaxRes: 2, High: 6, Clients: 2}
	if n := allRuns(newWorld(t, c), 6); n != 729 {
		t.Errorf("%d runs", n)
	}
	w := newWorld(t, c)
	w.commits(0, []int{0}, 0)
	w.commits(1, []int{1})
	allRuns(w, 7)
	v := newWorld(t, c)
	v.commits(1, []int{0, 1}, 1, 0)
	v.steps(4)
	allRuns(v, 7)
}

// spare is how many elements lie behind a list that is handed in.
const spare = 9

// spoilt does a step with a list of transactions of its own, sees that it is as it was, and writes over it and over what is handed out.
func (w *world) spoilt() {
	w.t.Helper()
	stranger, _ := txn.New(7)
	given := append(slices.Clone(w.desk.Txns), slices.Repeat([]*txn.Txn{stranger}, spare)...)
	d := w.desk
	d.Txns = given[:len(w.desk.Txns)]
	row, _ := w.stepWith(d)
	for i, x := range given {
		if i < len(w.desk.Txns) && x != w.desk.Txns[i] || i >= len(w.desk.Txns) && x != stranger {
			w.t.Fatalf("the transaction at %d is another one", i)
		}
	}
	clear(given)
	_ = append(row.Set, 3, 2, 1)
	w.spoilAnswers()
}

// spoilAnswers writes over all that a daemon hands out, and into the room behind it, and lets it grow.
func (w *world) spoilAnswers() {
	w.t.Helper()
	for _, tell := range []func() []int{w.g.Line, w.g.Members} {
		for _, l := range [][]int{tell(), append(tell(), 98, 97), append(tell(), 5)} {
			l = l[:cap(l)]
			for i := range l {
				l[i] = -99
			}
		}
	}
	w.tells()
}

// anyTurn does something with a world: the daemon, a client, a stranger that asks, or the checkpointer.
func (w *world) anyTurn(c *chance) {
	w.t.Helper()
	clients := w.c.Clients * 2
	switch i := c.below(clients + 4); {
	case i > clients:
		w.spoilt()
	case i == clients:
		w.free()
	default:
		w.clientTurn(i%w.c.Clients, c)
	}
}

// clientTurn does a client's next step, whatever it is.
func (w *world) clientTurn(i int, c *chance) {
	w.t.Helper()
	x := w.desk.Txns[i]
	switch {
	case x.State() == api.None:
		set := []int{c.below(w.c.Blocks)}
		for range c.below(w.c.MaxRes) {
			set = append(set, c.below(w.c.Blocks))
		}
		w.client(i, &api.Op{Kind: api.OpBegin, Set: set})
	case x.State() == api.Active && c.below(4) > 0:
		set := x.Set()
		w.client(i, write(set[c.below(len(set))], filled(byte(c.below(256)))))
	case x.State() == api.Active && c.below(5) == 0:
		w.client(i, &api.Op{Kind: api.OpAbort})
	case x.State() == api.Active:
		w.client(i, &api.Op{Kind: api.OpCommit})
		is(w.t, w.ask(i), api.OK)
		w.spoilAnswers()
	case x.State() != api.Committing:
		w.client(i, nil)
	default:
		is(w.t, w.ask(i), api.ErrInput)
	}
}

func TestR3_LongRuns(t *testing.T) {
	for n, c := range []api.Config{
		{Blocks: 4, LogCap: 6, MaxRes: 3, High: 6, Clients: 2},
		{Blocks: 1, LogCap: 2, MaxRes: 1, High: 1, Clients: 3},
		{Blocks: 8, LogCap: 9, MaxRes: 4, High: 5, Clients: 8},
		{Blocks: 64, LogCap: 64, MaxRes: 16, High: 40, Clients: 8},
		{Blocks: 30, LogCap: 64, MaxRes: 2, High: 60, Clients: 6},
	} {
		r := chance(1000 + n)
		w := newWorld(t, c)
		seen := map[int]int{}
		groups := map[int]int{}
		for range 3000 {
			w.anyTurn(&r)
			seen[w.g.State()]++
			groups[len(w.g.Members())]++
		}
		for state := group.Idle; state <= group.Acking; state++ {
			if seen[state] < 50 {
				t.Errorf("%+v: %d times in %d", c, seen[state], state)
			}
		}
		if c.LogCap > 20 && groups[3] == 0 {
			t.Errorf("%+v: no group of three", c)
		}
	}
}

func TestR3_LongRunsWithCopies(t *testing.T) {
	c := chance(77)
	worlds := []*world{newWorld(t, api.Config{Blocks: 5, LogCap: 12, MaxRes: 3, High: 6, Clients: 4})}
	for range 2500 {
		w := worlds[c.below(len(worlds))]
		w.anyTurn(&c)
		if c.below(10) == 0 {
			twin := w.copy()
			if len(worlds) < 5 {
				worlds = append(worlds, twin)
			} else {
				worlds[c.below(5)] = twin
			}
		}
		for _, x := range worlds {
			x.tells()
		}
	}
}

func TestR1_DesksOfOtherRuns(t *testing.T) {
	// What becomes of a group with others' parts is open: each call ends, and none panics.
	c := chance(9)
	cfgs := []api.Config{
		{Blocks: 4, LogCap: 6, MaxRes: 3, High: 6, Clients: 2},
		{Blocks: 1, LogCap: 2, MaxRes: 1, High: 1, Clients: 1},
		{Blocks: 64, LogCap: 64, MaxRes: 16, High: 64, Clients: 8},
	}
	for range 60 {
		var worlds []*world
		for _, cfg := range cfgs {
			w := newWorld(t, cfg)
			for i := range cfg.Clients {
				w.clientTurns(i, &c)
			}
			worlds = append(worlds, w)
		}
		any := func() *world { return worlds[c.below(len(worlds))] }
		g := group.New()
		for range 200 {
			if c.below(3) == 0 {
				g.Ask(c.below(9))
			}
			d := group.Desk{Log: any().desk.Log, Line: any().desk.Line, Locks: any().desk.Locks, Cache: any().desk.Cache, Txns: any().desk.Txns}
			before := g.Copy()
			row, e := g.Step(d)
			if e != api.OK {
				same(t, row, api.Row{})
				if g.State() != before.State() || !slices.Equal(g.Line(), before.Line()) || !slices.Equal(g.Members(), before.Members()) {
					t.Fatal("a refused step has changed something")
				}
			}
			if s := g.State(); s < group.Idle || s > group.Acking {
				t.Fatalf("its state is %d", s)
			}
			if (g.State() == group.Idle) != (len(g.Members()) == 0) {
				t.Fatalf("in %d with %v", g.State(), g.Members())
			}
		}
	}
}

// clientTurns brings a client some way to its commit.
func (w *world) clientTurns(i int, c *chance) {
	w.t.Helper()
	for range 12 {
		if w.desk.Txns[i].State() == api.Committing {
			return
		}
		w.clientTurn(i, c)
	}
}

func TestR1_OneTransactionAtTwoPlaces(t *testing.T) {
	w := newWorld(t, usual())
	w.commits(0, []int{1}, 1)
	is(t, w.g.Ask(1), api.OK)
	d := w.desk
	d.Txns = []*txn.Txn{d.Txns[0], d.Txns[0]}
	for range 3 {
		_, e := w.g.Step(d)
		is(t, e, api.OK)
	}
	// Its ticket is in the line no more.
	_, e := w.g.Step(d)
	is(t, e, api.ErrTicket)
	if end := d.Log.End(); end != 2 {
		t.Errorf("the log ends at %d", end)
	}
}

func TestR5_TwoAlike(t *testing.T) {
	a, b := three(t), three(t)
	for range allSteps + 2 {
		rowA, eA := a.step()
		rowB, eB := b.step()
		same(t, rowA, rowB)
		is(t, eA, eB)
	}
}

func TestR6_AskingChangesNothing(t *testing.T) {
	for n := range allSteps + 1 {
		w := three(t).steps(n)
		for range 3 {
			w.g.State()
			w.g.Line()
			w.g.Members()
			w.g.Enabled()
			w.g.Copy()
			w.tells()
		}
		is(t, w.ask(-1), api.ErrInput)
		w.steps(allSteps - n)
	}
}

func TestExamples(t *testing.T) {
	w := newWorld(t, api.Config{Blocks: 4, LogCap: 8, MaxRes: 2, High: 8, Clients: 2})
	if w.g.Enabled() {
		t.Error("a new one is enabled")
	}
	w.fails(api.ErrIdle)
	is(t, w.g.Copy().Ask(0), api.OK)
	w.commits(0, []int{3, 1}, 3, 1)
	is(t, w.ask(0), api.ErrInput)
	if l := w.g.Line(); !slices.Equal(l, []int{0}) {
		t.Errorf("Line = %v", l)
	}
	rows := []api.Row{
		{Kind: api.RowTaken, Block: -1, Count: 1},
		{Kind: api.RowAppended, Ticket: 1, Block: 1, Value: filled(2), Position: 0},
		{Kind: api.RowAppended, Ticket: 1, Block: 3, Value: filled(4), Position: 1},
		{Kind: api.RowAppended, Ticket: 1, Block: -1, Position: 2, Count: 2},
		{Kind: api.RowFlushed, Block: -1, Count: 3},
		{Kind: api.RowDone, Ticket: 1, Block: -1, Position: 2, Count: 2},
	}
	for n, want := range rows {
		row, e := w.step()
		is(t, e, api.OK)
		same(t, row, want)
		if n == 3 {
			w.commits(1, []int{0})
			if !slices.Equal(w.g.Line(), []int{1}) || !slices.Equal(w.g.Members(), []int{0}) {
				t.Errorf("Line %v, Members %v", w.g.Line(), w.g.Members())
			}
		}
	}
	if w.g.State() != group.Idle || !w.g.Enabled() {
		t.Errorf("its state is %d", w.g.State())
	}
}
