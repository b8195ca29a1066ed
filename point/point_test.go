package point_test

import (
	"bytes"
	"math"
	"slices"
	"testing"

	"wicket/admit"
	"wicket/api"
	"wicket/cache"
	"wicket/home"
	"wicket/point"
	"wicket/scan"
	"wicket/sector"
	"wicket/super"
	"wicket/wal"
)

// chance tells numbers that look like chance and are the same in each run.
type chance uint64

func (c *chance) next() uint64 {
	*c ^= *c << 13
	*c ^= *c >> 7
	*c ^= *c << 17
	return uint64(*c)
}

// below tells one of 0 to n - 1.
func (c *chance) below(n int) int {
	return int(c.next() % uint64(n))
}

// filled tells a value whose bytes all are one.
func filled(n byte) api.Value {
	var v api.Value
	for i := range v {
		v[i] = n
	}
	return v
}

// image tells an image whose value's bytes all are one.
func image(block int, n byte) api.Image {
	return api.Image{Block: block, Value: filled(n)}
}

// is holds an error against another one.
func is(t *testing.T, got, want api.Errno) {
	t.Helper()
	if got != want {
		t.Fatalf("it answers %d, want %d", got, want)
	}
}

// same holds a row against another one, field by field.
func same(t *testing.T, got, want api.Row) {
	t.Helper()
	if got.Kind != want.Kind || got.Life != want.Life || got.Actor != want.Actor || got.Ticket != want.Ticket || got.Block != want.Block ||
		got.Value != want.Value || got.Position != want.Position || got.Count != want.Count || got.Err != want.Err || !slices.Equal(got.Set, want.Set) {
		t.Fatalf("the row %+v, want %+v", got, want)
	}
}

// open makes a desk over a new disk, its log beginning at a position.
func open(t *testing.T, c api.Config, tail uint64) point.Desk {
	t.Helper()
	disk, e := home.New(c)
	is(t, e, api.OK)
	log, e := wal.Open(disk, c, tail, 1)
	is(t, e, api.OK)
	line, e := admit.New(c)
	is(t, e, api.OK)
	known, e := cache.New(c.Blocks)
	is(t, e, api.OK)
	return point.Desk{Config: c, Disk: disk, Log: log, Line: line, Cache: known}
}

// twin copies a desk with all that lies on it.
func twin(d point.Desk) point.Desk {
	disk := d.Disk.Copy()
	return point.Desk{Config: d.Config, Disk: disk, Log: d.Log.Over(disk), Line: d.Line.Copy(), Cache: d.Cache.Copy()}
}

// act is a step that a round has still to do.
type act struct {
	kind  int
	entry cache.Entry // of RowCarried
}

// model is a checkpointer by another hand: when a round begins, all of its steps are laid out, and then done one by one.
type model struct {
	plan   []act
	target uint64
	taken  []cache.Entry
}

func (m *model) copy() *model {
	return &model{plan: slices.Clone(m.plan), target: m.target, taken: slices.Clone(m.taken)}
}

func (m *model) state() int {
	if len(m.plan) == 0 {
		return point.Idle
	}
	switch m.plan[0].kind {
	case api.RowCarried:
		return point.Carrying
	case api.RowFlushed:
		return point.Flushing
	case api.RowMarked:
		return point.Marking
	}
	return point.Freeing
}

func (m *model) left() []cache.Entry {
	var l []cache.Entry
	for _, a := range m.plan {
		if a.kind == api.RowCarried {
			l = append(l, a.entry)
		}
	}
	return l
}

func (m *model) enabled(d point.Desk) bool {
	if len(m.plan) > 0 {
		return true
	}
	last, put := d.Cache.Last()
	if !put || last < d.Log.Tail() {
		return false
	}
	_, _, e := d.Line.Copy().Enter()
	return d.Line.Used() >= d.Config.High || e == api.ErrRoom
}

// step does the next step of a desk all of whose parts are there.
func (m *model) step(d point.Desk) (api.Row, api.Errno) {
	if !m.enabled(d) {
		return api.Row{}, api.ErrIdle
	}
	if len(m.plan) == 0 {
		m.lay(d)
		return api.Row{Kind: api.RowChosen, Block: -1, Position: m.target, Count: len(m.taken)}, api.OK
	}
	row, e := m.do(d, m.plan[0])
	if e != api.OK {
		return api.Row{}, e
	}
	m.plan = m.plan[1:]
	return row, api.OK
}

// lay lays out all steps of a round.
func (m *model) lay(d point.Desk) {
	last, _ := d.Cache.Last()
	m.target = last + 1
	m.taken = nil
	for block := range api.MaxBlocks {
		if entry, ok := d.Cache.Get(block); ok {
			m.taken = append(m.taken, entry)
			m.plan = append(m.plan, act{kind: api.RowCarried, entry: entry})
		}
	}
	m.plan = append(m.plan, act{kind: api.RowFlushed}, act{kind: api.RowMarked}, act{kind: api.RowFreed})
}

// do does a step by the words of the chapter, one call behind the other.
func (m *model) do(d point.Desk, a act) (api.Row, api.Errno) {
	switch a.kind {
	case api.RowCarried:
		e := home.Save(d.Disk, d.Config, a.entry.Block, a.entry.Value)
		return api.Row{Kind: a.kind, Block: a.entry.Block, Value: a.entry.Value}, e
	case api.RowFlushed:
		n, e := d.Log.Flush()
		return api.Row{Kind: a.kind, Block: -1, Count: n}, e
	case api.RowMarked:
		return api.Row{Kind: a.kind, Block: -1, Position: m.target}, d.Log.Mark(m.target)
	}
	if d.Log.Marked() != m.target || d.Log.Tail()+uint64(d.Line.Used()) < m.target {
		return api.Row{}, api.ErrInput
	}
	n, e := d.Log.Free()
	if e != api.OK {
		return api.Row{}, e
	}
	for _, entry := range m.taken {
		if is, ok := d.Cache.Get(entry.Block); ok && is.Position == entry.Position {
			d.Cache.Drop([]cache.Entry{is})
		}
	}
	return api.Row{Kind: a.kind, Block: -1, Position: m.target, Count: n}, d.Line.Freed(n)
}

// done is a transaction that is being written, or has been and is not acknowledged.
type done struct {
	ticket   uint64
	images   []api.Image
	written  int
	position uint64
}

// world is a checkpointer and its desk beside a model of both: each call is done with both. What others do is done with both desks.
type world struct {
	t       *testing.T
	p       *point.Point
	d       point.Desk
	m       *model
	own     point.Desk // the model's
	writing *done
	pending []done // committed, not acknowledged
}

func worldAt(t *testing.T, c api.Config, tail uint64) *world {
	t.Helper()
	return &world{t: t, p: point.New(), d: open(t, c, tail), m: &model{}, own: open(t, c, tail)}
}

func newWorld(t *testing.T, c api.Config) *world {
	t.Helper()
	return worldAt(t, c, 0)
}

func (w *world) copy() *world {
	x := &world{t: w.t, p: w.p.Copy(), d: twin(w.d), m: w.m.copy(), own: twin(w.own), pending: slices.Clone(w.pending)}
	if w.writing != nil {
		now := *w.writing
		x.writing = &now
	}
	return x
}

// tells holds all that a world tells against its model.
func (w *world) tells() {
	w.t.Helper()
	w.tellsPoint()
	tellsLog(w.t, w.d.Log, w.own.Log)
	tellsDisk(w.t, w.d.Disk, w.own.Disk)
	tellsLine(w.t, w.d.Line, w.own.Line)
	tellsCache(w.t, w.d.Cache, w.own.Cache)
}

func (w *world) tellsPoint() {
	w.t.Helper()
	p, m := w.p, w.m
	if p.State() != m.state() || p.Enabled(w.d) != m.enabled(w.own) {
		w.t.Fatalf("State %d, Enabled %v, want %d, %v", p.State(), p.Enabled(w.d), m.state(), m.enabled(w.own))
	}
	target, ok := p.Target()
	if ok != (len(m.plan) > 0) || ok && target != m.target || !ok && target != 0 {
		w.t.Fatalf("in %d Target %d, %v, want %d", p.State(), target, ok, m.target)
	}
	if l := p.Left(); !slices.Equal(l, m.left()) {
		w.t.Fatalf("in %d Left %v, want %v", p.State(), l, m.left())
	}
}

func tellsLog(t *testing.T, a, b *wal.Log) {
	t.Helper()
	if a.Tail() != b.Tail() || a.End() != b.End() || a.Marked() != b.Marked() || a.Used() != b.Used() {
		t.Fatalf("the log: %d to %d, %d marked, want %d to %d, %d", a.Tail(), a.End(), a.Marked(), b.Tail(), b.End(), b.Marked())
	}
	for p := a.Tail(); p <= a.End(); p++ {
		got, e := a.Read(p)
		want, wantE := b.Read(p)
		if got != want || e != wantE {
			t.Fatalf("the log's record at %d: %+v, %d, want %+v, %d", p, got, e, want, wantE)
		}
	}
}

func tellsDisk(t *testing.T, a, b *sector.Disk) {
	t.Helper()
	if !bytes.Equal(a.Image(), b.Image()) {
		t.Fatal("another disk")
	}
	if !slices.EqualFunc(a.Waiting(), b.Waiting(), func(a, b sector.Write) bool { return a.Sector == b.Sector && bytes.Equal(a.Data, b.Data) }) {
		t.Fatal("other writes wait")
	}
}

func tellsLine(t *testing.T, a, b *admit.Line) {
	t.Helper()
	if a.Used() != b.Used() || a.Reserved() != b.Reserved() || a.Fits() != b.Fits() {
		t.Fatalf("Used %d, Reserved %d, Fits %v, want %d, %d, %v", a.Used(), a.Reserved(), a.Fits(), b.Used(), b.Reserved(), b.Fits())
	}
	if !slices.Equal(a.Waiting(), b.Waiting()) || !slices.Equal(a.In(), b.In()) {
		t.Fatalf("Waiting %v, In %v, want %v, %v", a.Waiting(), a.In(), b.Waiting(), b.In())
	}
	_, form, _ := a.First()
	if _, want, _ := b.First(); !slices.Equal(form, want) {
		t.Fatalf("the first one's set is %v, want %v", form, want)
	}
	for _, n := range b.In() {
		left, _ := a.Left(n)
		if want, _ := b.Left(n); left != want {
			t.Fatalf("Left(%d) = %d, want %d", n, left, want)
		}
	}
}

func tellsCache(t *testing.T, a, b *cache.Cache) {
	t.Helper()
	last, put := a.Last()
	wantLast, wantPut := b.Last()
	if !slices.Equal(a.Entries(), b.Entries()) || last != wantLast || put != wantPut {
		t.Fatalf("the cache: %v, last %d %v, want %v, %d %v", a.Entries(), last, put, b.Entries(), wantLast, wantPut)
	}
}

// goes holds a change of the state against the chapter, and against the row that tells of it.
func (w *world) goes(from, to, kind int) {
	w.t.Helper()
	may := kind == 0 && from == to ||
		kind == api.RowChosen && from == point.Idle && (to == point.Carrying || to == point.Flushing) ||
		kind == api.RowCarried && from == point.Carrying && (to == point.Carrying || to == point.Flushing) ||
		kind == api.RowFlushed && from == point.Flushing && to == point.Marking ||
		kind == api.RowMarked && from == point.Marking && to == point.Freeing ||
		kind == api.RowFreed && from == point.Freeing && to == point.Idle
	if !may {
		w.t.Fatalf("from %d to %d by a row of %d", from, to, kind)
	}
}

// step does a step with both.
func (w *world) step() (api.Row, api.Errno) {
	w.t.Helper()
	from := w.p.State()
	on := w.p.Enabled(w.d)
	row, e := w.p.Step(w.d)
	want, wantE := w.m.step(w.own)
	if e != wantE {
		w.t.Fatalf("Step in %d = %+v, %d, want %+v, %d", from, row, e, want, wantE)
	}
	if on == (e == api.ErrIdle) {
		w.t.Fatalf("Enabled %v, and Step answers %d", on, e)
	}
	same(w.t, row, want)
	w.goes(from, w.p.State(), row.Kind)
	w.tells()
	return row, e
}

// steps does so many steps, none of which is refused.
func (w *world) steps(n int) *world {
	w.t.Helper()
	for range n {
		_, e := w.step()
		is(w.t, e, api.OK)
	}
	return w
}

// round does all steps of a round, and tells how many.
func (w *world) round() int {
	w.t.Helper()
	w.steps(1)
	n := 1
	for ; w.p.State() != point.Idle; n++ {
		w.steps(1)
	}
	return n
}

// fails does a step that is refused.
func (w *world) fails(want api.Errno) {
	w.t.Helper()
	if _, e := w.step(); e != want {
		w.t.Fatalf("Step in %d answers %d, want %d", w.p.State(), e, want)
	}
}

// refused does a step with another desk that a test says is refused; the model does none.
func (w *world) refused(d point.Desk, want api.Errno) {
	w.t.Helper()
	for range 2 {
		row, e := w.p.Step(d)
		if e != want {
			w.t.Fatalf("Step in %d answers %d, want %d", w.p.State(), e, want)
		}
		same(w.t, row, api.Row{})
		w.tells()
	}
}

// both does the same with each desk.
func (w *world) both(do func(d point.Desk)) {
	w.t.Helper()
	do(w.d)
	do(w.own)
	w.tells()
}

// begin lets a set stand in the line.
func (w *world) begin(set ...int) {
	w.t.Helper()
	w.both(func(d point.Desk) {
		_, _, e := d.Line.Begin(set)
		is(w.t, e, api.OK)
	})
}

// enter lets the first one in, and tells its ticket.
func (w *world) enter() uint64 {
	w.t.Helper()
	var ticket uint64
	w.both(func(d point.Desk) {
		n, _, e := d.Line.Enter()
		is(w.t, e, api.OK)
		ticket = n
	})
	return ticket
}

// writes begins to write a transaction that is in.
func (w *world) writes(ticket uint64, images ...api.Image) {
	w.writing = &done{ticket: ticket, images: images}
}

// record appends the next record of the transaction that is being written.
func (w *world) record() {
	w.t.Helper()
	x := w.writing
	w.both(func(d point.Desk) {
		var e, f api.Errno
		if x.written < len(x.images) {
			i := x.images[x.written]
			_, e = d.Log.Image(i.Block, i.Value)
			f = d.Line.Append(x.ticket)
		} else {
			x.position, e = d.Log.Commit()
			f = d.Line.Done(x.ticket)
		}
		is(w.t, e, api.OK)
		is(w.t, f, api.OK)
	})
	x.written++
	if x.written > len(x.images) {
		w.pending = append(w.pending, *x)
		w.writing = nil
	}
}

// acknowledge puts the first committed one into the cache.
func (w *world) acknowledge() {
	w.t.Helper()
	x := w.pending[0]
	w.pending = w.pending[1:]
	w.both(func(d point.Desk) { is(w.t, d.Cache.Put(x.images, x.position), api.OK) })
}

// commits writes a whole transaction, without its acknowledgement.
func (w *world) commits(images ...api.Image) {
	w.t.Helper()
	set := []int{0}
	for _, i := range images {
		set = append(set, i.Block)
	}
	if len(images) > 0 {
		set = set[1:]
	}
	w.begin(set...)
	w.writes(w.enter(), images...)
	for w.writing != nil {
		w.record()
	}
}

// tx writes a whole transaction, and acknowledges it.
func (w *world) tx(images ...api.Image) {
	w.t.Helper()
	w.commits(images...)
	w.acknowledge()
}

// put puts images into the cache as those of a commit that stands nowhere.
func (w *world) put(position uint64, images ...api.Image) {
	w.t.Helper()
	w.both(func(d point.Desk) { is(w.t, d.Cache.Put(images, position), api.OK) })
}

// usual is a configuration with room for all that the tests below commit.
func usual() api.Config {
	return api.Config{Blocks: 6, LogCap: 20, MaxRes: 3, High: 4, Clients: 2}
}

// three is a world whose cache has three entries of two commits, the log ending at 6: a block of the first one was written anew by the second, so that three of four images are left.
func three(t *testing.T) *world {
	t.Helper()
	w := newWorld(t, usual())
	w.tx(image(1, 11), image(4, 14))
	w.tx(image(2, 22), image(4, 24))
	return w
}

// allSteps is how many steps the round of three has: it is chosen; three homes; the flush; the mark; the end.
const allSteps = 1 + 3 + 3

// stateOf tells the state of three behind so many steps.
func stateOf(steps int) int {
	return []int{1, 2, 2, 2, 3, 4, 5, 1}[steps]
}

func TestP20_1_New(t *testing.T) {
	p := point.New()
	target, ok := p.Target()
	if p == nil || p.State() != point.Idle || target != 0 || ok || len(p.Left()) != 0 {
		t.Fatalf("New: %v", p)
	}
	if point.Idle != 1 || point.Carrying != 2 || point.Flushing != 3 || point.Marking != 4 || point.Freeing != 5 {
		t.Error("other states")
	}
	w := three(t)
	other := point.New()
	_, e := other.Step(w.d)
	is(t, e, api.OK)
	if p.State() != point.Idle || len(p.Left()) != 0 || point.New().State() != point.Idle {
		t.Error("a new one sees another one's round")
	}
}

func TestP20_1_StateTargetLeft(t *testing.T) {
	l := []cache.Entry{{Block: 1, Value: filled(11), Position: 2}, {Block: 2, Value: filled(22), Position: 5}, {Block: 4, Value: filled(24), Position: 5}}
	w := three(t)
	for n := range allSteps + 1 {
		if s := w.p.State(); s != stateOf(n) {
			t.Fatalf("behind %d steps its state is %d", n, s)
		}
		target, ok := w.p.Target()
		if n == 0 || n == allSteps {
			if target != 0 || ok {
				t.Errorf("behind %d steps its target is %d, %v", n, target, ok)
			}
		} else if target != 6 || !ok {
			t.Errorf("behind %d steps its target is %d, %v", n, target, ok)
		}
		want := []cache.Entry(nil)
		if n >= 1 && n <= 3 {
			want = l[n-1:]
		}
		if got := w.p.Left(); !slices.Equal(got, want) {
			t.Errorf("behind %d steps Left = %v, want %v", n, got, want)
		}
		if n < allSteps {
			w.steps(1)
		}
	}
	w.fails(api.ErrIdle)
}

func TestP20_1_TheSecondRoundIsItsOwn(t *testing.T) {
	w := three(t).steps(allSteps)
	w.tx(image(0, 30))
	w.fails(api.ErrIdle)
	w.tx()
	w.tx(image(4, 34))
	w.steps(1)
	if target, _ := w.p.Target(); target != 11 {
		t.Errorf("its target is %d", target)
	}
	want := []cache.Entry{{Block: 0, Value: filled(30), Position: 7}, {Block: 4, Value: filled(34), Position: 10}}
	if l := w.p.Left(); !slices.Equal(l, want) {
		t.Errorf("Left = %v", l)
	}
	w.steps(5)
	if w.p.State() != point.Idle || w.d.Log.Tail() != 11 {
		t.Errorf("its state is %d, the log's Tail %d", w.p.State(), w.d.Log.Tail())
	}
}

func TestP20_1_CopiesInEachState(t *testing.T) {
	for n := range allSteps + 1 {
		w := three(t).steps(n)
		a := w.copy()
		b := a.copy()
		c := b.copy()
		all := []*world{w, a, b, c}
		quiet := func() {
			t.Helper()
			for _, x := range all {
				x.tells()
			}
		}
		quiet()
		for range allSteps - n {
			w.steps(1)
			quiet()
		}
		a.tx(image(4, 99), image(5, 98))
		quiet()
		for a.p.State() != point.Idle {
			a.steps(1)
			quiet()
		}
		b.steps(allSteps - n)
		quiet()
		b.tx(image(0, 3), image(2, 4), image(3, 5))
		quiet()
		b.steps(1)
		quiet()
		for _, x := range []*world{c, b} {
			for x.p.State() != point.Idle {
				x.steps(1)
				quiet()
			}
		}
	}
}

func TestP20_1_ACopyKeepsItsDesk(t *testing.T) {
	// The copy of a checkpointer works on whatever desk it is given, and the other one knows nothing of that.
	w := three(t).steps(2)
	q := w.p.Copy()
	d := twin(w.d)
	for q.State() != point.Idle {
		_, e := q.Step(d)
		is(t, e, api.OK)
		w.tells()
	}
	if d.Log.Tail() != 6 || d.Cache.Len() != 0 || w.d.Log.Tail() != 0 || w.p.State() != point.Carrying {
		t.Error("it saw the other")
	}
	w.steps(allSteps - 2)
}

func TestP20_1_Nil(t *testing.T) {
	var p *point.Point
	w := three(t)
	for _, d := range []point.Desk{{}, {Config: w.d.Config}, w.d, newWorld(t, usual()).d} {
		target, ok := p.Target()
		if p.State() != 0 || target != 0 || ok || len(p.Left()) != 0 || p.Enabled(d) || p.Copy() != nil {
			t.Error("a nil one tells something")
		}
		row, e := p.Step(d)
		is(t, e, api.ErrHandle)
		same(t, row, api.Row{})
		w.tells()
	}
}

// lacking tells a desk without some of its parts: each bit of a number is one of them.
func lacking(d point.Desk, parts int) point.Desk {
	if parts&1 != 0 {
		d.Disk = nil
	}
	if parts&2 != 0 {
		d.Log = nil
	}
	if parts&4 != 0 {
		d.Line = nil
	}
	if parts&8 != 0 {
		d.Cache = nil
	}
	return d
}

func TestP20_2_NilOfTheDesk(t *testing.T) {
	for n := range allSteps + 1 {
		w := three(t).steps(n)
		for parts := 1; parts < 16; parts++ {
			d := lacking(w.d, parts)
			if w.p.Enabled(d) {
				t.Errorf("enabled in %d without %b", w.p.State(), parts)
			}
			w.refused(d, api.ErrHandle)
		}
		w.steps(allSteps - n)
	}
	// Nothing is to do either: the pointers go first.
	w := newWorld(t, usual())
	for parts := 1; parts < 16; parts++ {
		w.refused(lacking(w.d, parts), api.ErrHandle)
	}
	w.fails(api.ErrIdle)
}

// lined tells a line of 8 slots with so many used and reserved, and with a first one, if it wants blocks.
func lined(t *testing.T, used, reserved, wants int) *admit.Line {
	t.Helper()
	line, e := admit.New(api.Config{Blocks: 6, LogCap: 8, MaxRes: 6, High: 8, Clients: 1})
	is(t, e, api.OK)
	for line.Used() < used {
		n, _, e := line.Begin([]int{0})
		is(t, e, api.OK)
		_, _, e = line.Enter()
		is(t, e, api.OK)
		if (used-line.Used())%2 == 0 {
			is(t, line.Append(n), api.OK)
		}
		is(t, line.Done(n), api.OK)
	}
	if reserved > 0 {
		_, _, e := line.Begin([]int{0, 1, 2, 3, 4, 5}[:reserved-1])
		is(t, e, api.OK)
		_, _, e = line.Enter()
		is(t, e, api.OK)
	}
	if wants > 0 {
		_, _, e := line.Begin([]int{0, 1, 2, 3, 4, 5}[:wants])
		is(t, e, api.OK)
	}
	if line.Used() != used || line.Reserved() != reserved {
		t.Fatalf("Used %d, Reserved %d, want %d, %d", line.Used(), line.Reserved(), used, reserved)
	}
	return line
}

// lasts are caches by their last position (-1: none) over a log with a tail, and whether what stands behind it is above the tail.
var lasts = []struct {
	tail uint64
	last int64
	over bool
}{
	{10, -1, false}, {10, 0, false}, {10, 7, false}, {10, 8, false}, {10, 9, false}, {10, 10, true}, {10, 11, true}, {10, 500, true}, {10, api.MaxPos, true},
	{0, -1, false}, {0, 0, true}, {0, 1, true}, {1, -1, false}, {1, 0, false}, {1, 1, true},
	{api.MaxPos, api.MaxPos - 2, false}, {api.MaxPos, api.MaxPos - 1, false}, {api.MaxPos, api.MaxPos, true}, {api.MaxPos, -1, false}, {api.MaxPos - 1, api.MaxPos - 1, true},
}

func TestP20_2_Idle(t *testing.T) {
	c := api.Config{Blocks: 6, LogCap: 8, MaxRes: 6, High: 4, Clients: 1}
	seen := map[[3]int]int{}
	for _, x := range lasts {
		for used := range 9 {
			for _, reserved := range []int{0, 2, 3, 4} {
				if used+reserved > 8 {
					continue
				}
				for wants := range 7 {
					d := open(t, c, x.tail)
					if x.last >= 0 {
						is(t, d.Cache.Put([]api.Image{image(used%6, 5)}[:wants%2], uint64(x.last)), api.OK)
					}
					d.Line = lined(t, used, reserved, wants)
					stuck := wants > 0 && used+reserved+wants+1 > 8
					want := x.over && (used >= 4 || stuck)
					p := point.New()
					if got := p.Enabled(d); got != want {
						t.Fatalf("Enabled = %v of Tail %d, last %d, Used %d, Reserved %d, a first one with %d blocks", got, x.tail, x.last, used, reserved, wants)
					}
					before := twin(d)
					row, e := p.Step(d)
					unchanged(t, d, before)
					if !want {
						is(t, e, api.ErrIdle)
						same(t, row, api.Row{})
						if p.State() != point.Idle {
							t.Fatal("a refused step has begun a round")
						}
						continue
					}
					is(t, e, api.OK)
					same(t, row, api.Row{Kind: api.RowChosen, Block: -1, Position: uint64(x.last) + 1, Count: wants % 2})
					seen[[3]int{min(used, 5), min(wants, 1), b2i(stuck)}]++
				}
			}
		}
	}
	// Used below High asks for one who is stuck; at High and above it nobody need stand there.
	for used := range 6 {
		for _, who := range [][2]int{{0, 0}, {1, 0}, {1, 1}} {
			n := seen[[3]int{used, who[0], who[1]}]
			if (n > 0) != (used >= 4 || who[1] == 1) {
				t.Errorf("Used %d, %v: %d times enabled", used, who, n)
			}
		}
	}
}

// b2i tells 1 of true.
func b2i(b bool) int {
	if b {
		return 1
	}
	return 0
}

// unchanged holds all parts of a desk against another one's.
func unchanged(t *testing.T, d, was point.Desk) {
	t.Helper()
	if d.Config != was.Config {
		t.Fatal("another configuration")
	}
	tellsLog(t, d.Log, was.Log)
	tellsDisk(t, d.Disk, was.Disk)
	tellsLine(t, d.Line, was.Line)
	tellsCache(t, d.Cache, was.Cache)
}

func TestP20_2_HighIsTheDesks(t *testing.T) {
	w := newWorld(t, api.Config{Blocks: 2, LogCap: 8, MaxRes: 1, High: 3, Clients: 1})
	w.tx()
	w.tx()
	for _, x := range []struct {
		high int
		want bool
	}{
		{math.MinInt, true}, {-1, true}, {0, true}, {1, true}, {2, true}, {3, false}, {8, false}, {9, false}, {64, false}, {math.MaxInt, false},
	} {
		// Of the configuration it is High alone that is asked for here.
		for _, c := range []api.Config{w.d.Config, {}, {Blocks: -1, LogCap: 3, MaxRes: 99}} {
			d := w.d
			d.Config = c
			d.Config.High = x.high
			if got := w.p.Enabled(d); got != x.want {
				t.Errorf("with High %d Enabled = %v", x.high, got)
			}
			if _, e := w.p.Copy().Step(d); (e == api.OK) != x.want || !x.want && e != api.ErrIdle {
				t.Errorf("with High %d Step answers %d", x.high, e)
			}
		}
	}
	w.tells()
}

func TestP20_2_UsedIsTheLines(t *testing.T) {
	// The line's Used is asked for, and the log's Tail: a line of another run says another thing than the log.
	w := three(t)
	d := w.d
	d.Line = newWorld(t, usual()).d.Line
	if w.p.Enabled(d) {
		t.Error("enabled by the log's Used")
	}
	w.refused(d, api.ErrIdle)
	empty := newWorld(t, usual())
	d = empty.d
	d.Line, d.Cache = w.d.Line, w.d.Cache
	if !empty.p.Enabled(d) {
		t.Error("not enabled though the line's Used is High")
	}
}

func TestP20_2_NotIdle(t *testing.T) {
	// Whatever the desk says: who has begun goes on.
	others := []point.Desk{newWorld(t, usual()).d, worldAt(t, usual(), 500).d, open(t, api.Config{Blocks: 1, LogCap: 2, MaxRes: 1, High: 2, Clients: 1}, 0)}
	blank := newWorld(t, usual()).d
	blank.Config = api.Config{}
	blank.Log = blank.Log.Over(nil)
	others = append(others, blank)
	for n := range allSteps + 1 {
		w := three(t).steps(n)
		for _, d := range others {
			if got := w.p.Enabled(d); got != (n > 0 && n < allSteps) {
				t.Errorf("behind %d steps Enabled = %v", n, got)
			}
		}
	}
}

func TestP20_2_AnEmptyCacheThatHadEntries(t *testing.T) {
	// It is the last position that counts, not whether there are entries.
	w := three(t).steps(allSteps)
	if w.p.Enabled(w.d) {
		t.Error("enabled behind a round")
	}
	w.put(6)
	w.both(func(d point.Desk) {
		d.Line.Begin([]int{0, 1, 2})
	})
	w.fails(api.ErrIdle)
	for w.d.Line.Fits() {
		w.enter()
		w.begin(0, 1, 2)
	}
	if !w.p.Enabled(w.d) {
		t.Error("not enabled, though the first one does not fit")
	}
	row, e := w.step()
	is(t, e, api.OK)
	same(t, row, api.Row{Kind: api.RowChosen, Block: -1, Position: 7})
	// A cache with entries below the tail has nothing that would free a slot.
	v := newWorld(t, usual())
	v.put(3, image(1, 1))
	d := v.d
	d.Log = worldAt(t, usual(), 4).d.Log
	d.Config.High = 0
	if v.p.Enabled(d) {
		t.Error("enabled with its target at the tail")
	}
}

func TestP20_3_EachRow(t *testing.T) {
	w := three(t)
	for n, want := range []api.Row{
		{Kind: api.RowChosen, Block: -1, Position: 6, Count: 3},
		{Kind: api.RowCarried, Block: 1, Value: filled(11)},
		{Kind: api.RowCarried, Block: 2, Value: filled(22)},
		{Kind: api.RowCarried, Block: 4, Value: filled(24)},
		{Kind: api.RowFlushed, Block: -1, Count: 9},
		{Kind: api.RowMarked, Block: -1, Position: 6},
		{Kind: api.RowFreed, Block: -1, Position: 6, Count: 6},
	} {
		row, e := w.step()
		is(t, e, api.OK)
		same(t, row, want)
		if s := w.p.State(); s != stateOf(n+1) {
			t.Errorf("behind step %d its state is %d", n, s)
		}
	}
	w.fails(api.ErrIdle)
}

func TestP20_3_WhatEachStepChanges(t *testing.T) {
	w := three(t)
	for n := range allSteps + 1 {
		d := w.d
		waiting := []int{6, 6, 7, 8, 9, 0, 1, 0}[n]
		marked := []uint64{0, 0, 0, 0, 0, 0, 6, 6}[n]
		tail := []uint64{0, 0, 0, 0, 0, 0, 0, 6}[n]
		used := []int{6, 6, 6, 6, 6, 6, 6, 0}[n]
		cached := []int{3, 3, 3, 3, 3, 3, 3, 0}[n]
		if len(d.Disk.Waiting()) != waiting || d.Log.Marked() != marked || d.Log.Tail() != tail || d.Line.Used() != used || d.Cache.Len() != cached || d.Log.End() != 6 {
			t.Errorf("behind %d steps: %d wait, %d marked, Tail %d, Used %d, %d cached", n, len(d.Disk.Waiting()), d.Log.Marked(), d.Log.Tail(), d.Line.Used(), d.Cache.Len())
		}
		for i, b := range []int{1, 2, 4} {
			v, e := home.Load(d.Disk, d.Config, b)
			is(t, e, api.OK)
			if home := v != (api.Value{}); home != (n >= i+2) {
				t.Errorf("behind %d steps block %d's home is %v", n, b, v)
			}
		}
		if n < allSteps {
			w.steps(1)
		}
	}
	if last, put := w.d.Cache.Last(); last != 5 || !put {
		t.Errorf("the cache's last position is %d, %v", last, put)
	}
}

func TestP20_3_HowManyEntries(t *testing.T) {
	// The greatest copy of one run: 60 images and 4 commits fill the log.
	c := api.Config{Blocks: 64, LogCap: 64, MaxRes: 16, High: 1, Clients: 1}
	for n := range 61 {
		w := newWorld(t, c)
		images := []api.Image{}
		for i := range n {
			images = append(images, image(i*13%64, byte(i+1)))
		}
		slices.SortFunc(images, func(a, b api.Image) int { return a.Block - b.Block })
		for l := range slices.Chunk(images, 15) {
			w.tx(l...)
		}
		if n == 0 {
			w.tx()
		}
		row, e := w.step()
		is(t, e, api.OK)
		same(t, row, api.Row{Kind: api.RowChosen, Block: -1, Position: w.d.Log.End(), Count: n})
		for _, i := range images {
			row, e := w.step()
			is(t, e, api.OK)
			same(t, row, api.Row{Kind: api.RowCarried, Block: i.Block, Value: i.Value})
		}
		if w.p.State() != point.Flushing {
			t.Fatalf("of %d entries its state is %d behind the last one", n, w.p.State())
		}
		w.steps(3)
		if w.p.State() != point.Idle || w.d.Cache.Len() != 0 {
			t.Fatalf("of %d entries its state is %d, %d are left", n, w.p.State(), w.d.Cache.Len())
		}
	}
}

func TestP20_3_AnEntryForEveryBlock(t *testing.T) {
	for _, blocks := range []int{1, 2, 6, 63, 64} {
		c := api.Config{Blocks: blocks, LogCap: 64, MaxRes: 1, High: 1, Clients: 1}
		w := newWorld(t, c)
		images := []api.Image{}
		for i := range blocks {
			images = append(images, image(i, byte(200-i)))
		}
		w.commits()
		w.put(0, images...)
		if n := w.round(); n != blocks+4 {
			t.Errorf("%d steps of %d entries", n, blocks)
		}
		values, e := home.All(w.d.Disk, c)
		is(t, e, api.OK)
		for i, v := range values {
			if v != filled(byte(200-i)) {
				t.Errorf("block %d's home is %v", i, v)
			}
		}
	}
}

func TestP20_3_TheValueIsWhole(t *testing.T) {
	var v, u api.Value
	for i := range v {
		v[i], u[i] = byte(i*7+1), byte(255-i)
	}
	w := newWorld(t, usual())
	w.tx(api.Image{Block: 0, Value: v}, api.Image{Block: 3}, api.Image{Block: 5, Value: u})
	w.steps(1)
	for _, want := range []api.Row{{Kind: api.RowCarried, Block: 0, Value: v}, {Kind: api.RowCarried, Block: 3}, {Kind: api.RowCarried, Block: 5, Value: u}} {
		row, e := w.step()
		is(t, e, api.OK)
		same(t, row, want)
	}
	values, e := home.All(w.d.Disk, w.d.Config)
	is(t, e, api.OK)
	if !slices.Equal(values, []api.Value{v, {}, {}, {}, {}, u}) {
		t.Errorf("the homes are %v", values)
	}
}

func TestP20_3_AnEmptyCopy(t *testing.T) {
	w := newWorld(t, usual())
	for range 4 {
		w.tx()
	}
	for _, want := range []api.Row{
		{Kind: api.RowChosen, Block: -1, Position: 4},
		{Kind: api.RowFlushed, Block: -1, Count: 4},
		{Kind: api.RowMarked, Block: -1, Position: 4},
		{Kind: api.RowFreed, Block: -1, Position: 4, Count: 4},
	} {
		row, e := w.step()
		is(t, e, api.OK)
		same(t, row, want)
		if len(w.p.Left()) != 0 {
			t.Error("something is left of nothing")
		}
	}
	w.fails(api.ErrIdle)
}

func TestP20_3_OthersWritesAreFlushedToo(t *testing.T) {
	w := three(t).steps(4)
	w.begin(0)
	w.writes(w.enter(), image(0, 1))
	w.record()
	row, e := w.step()
	is(t, e, api.OK)
	same(t, row, api.Row{Kind: api.RowFlushed, Block: -1, Count: 10})
	w.record()
	w.steps(1)
	if n := len(w.d.Disk.Waiting()); n != 2 {
		t.Errorf("%d writes wait", n)
	}
	// A flush of nothing is one too: somebody else has been faster.
	v := three(t).steps(4)
	v.both(func(d point.Desk) { d.Log.Flush() })
	row, e = v.step()
	is(t, e, api.OK)
	same(t, row, api.Row{Kind: api.RowFlushed, Block: -1})
	v.steps(1)
	v.both(func(d point.Desk) { d.Log.Flush() })
	row, e = v.step()
	is(t, e, api.OK)
	same(t, row, api.Row{Kind: api.RowFreed, Block: -1, Position: 6, Count: 6})
}

func TestP20_3_TheHomeRefuses(t *testing.T) {
	small := usual()
	small.Blocks, small.MaxRes = 1, 1
	other, e := home.New(small)
	is(t, e, api.OK)
	for n := 1; n <= 3; n++ {
		w := three(t).steps(n)
		for _, x := range []struct {
			change func(d *point.Desk)
			want   api.Errno
		}{
			{func(d *point.Desk) { d.Config = api.Config{} }, api.ErrConfig},
			{func(d *point.Desk) { d.Config.Clients = 9 }, api.ErrConfig},
			{func(d *point.Desk) { d.Config.MaxRes = 0 }, api.ErrConfig},
			{func(d *point.Desk) { d.Config.High = 21 }, api.ErrConfig},
			{func(d *point.Desk) { d.Config.LogCap++ }, api.ErrSector},
			{func(d *point.Desk) { d.Disk = other }, api.ErrSector},
			{func(d *point.Desk) { d.Config, d.Disk = small, other }, api.ErrBlock},
			{func(d *point.Desk) { d.Config.LogCap, d.Config.Blocks, d.Config.MaxRes = 25, 1, 1 }, api.ErrBlock},
			{func(d *point.Desk) { d.Config.LogCap, d.Config.Blocks = 65, 99 }, api.ErrConfig},
		} {
			d := w.d
			x.change(&d)
			if !w.p.Enabled(d) {
				t.Error("not enabled with a home that refuses")
			}
			w.refused(d, x.want)
		}
		if n := len(other.Waiting()); n != 0 {
			t.Errorf("%d writes wait on the other disk", n)
		}
		w.steps(allSteps - n)
	}
}

func TestP20_3_TheHomeIsTheDesksDisks(t *testing.T) {
	// Homes go to the desk's disk, and flushes to the log's: of a desk made by hand they need not be one.
	w := three(t).steps(1)
	d := w.d
	d.Disk = w.d.Disk.Copy()
	for range 3 {
		_, e := w.p.Step(d)
		is(t, e, api.OK)
	}
	if len(d.Disk.Waiting()) != 9 || len(w.d.Disk.Waiting()) != 6 {
		t.Errorf("%d and %d writes wait", len(d.Disk.Waiting()), len(w.d.Disk.Waiting()))
	}
	row, e := w.p.Step(d)
	is(t, e, api.OK)
	same(t, row, api.Row{Kind: api.RowFlushed, Block: -1, Count: 6})
	if len(d.Disk.Waiting()) != 9 || len(w.d.Disk.Waiting()) != 0 {
		t.Errorf("%d and %d writes wait behind the flush", len(d.Disk.Waiting()), len(w.d.Disk.Waiting()))
	}
}

func TestP20_3_AConfigurationOfTheSameLength(t *testing.T) {
	// The log keeps its own configuration; the desk's is asked for High and for the homes.
	w := three(t).steps(1)
	d := w.d
	d.Config = api.Config{Blocks: 7, LogCap: 19, MaxRes: 1, High: 1, Clients: 8}
	for w.p.State() != point.Idle {
		_, e := w.p.Step(d)
		is(t, e, api.OK)
		_, e = w.m.step(w.own)
		is(t, e, api.OK)
	}
	w.tells()
}

func TestP20_3_ALogWithoutADisk(t *testing.T) {
	for n := range allSteps {
		w := three(t).steps(n)
		d := w.d
		d.Log = w.d.Log.Over(nil)
		if !w.p.Enabled(d) {
			t.Errorf("not enabled behind %d steps", n)
		}
		if n >= 4 {
			w.refused(d, api.ErrHandle)
			if d.Log.Tail() != 0 || d.Log.Marked() != w.d.Log.Marked() {
				t.Error("a refused step has changed the log")
			}
		} else {
			// The log's disk is not asked for till then.
			_, e := w.p.Step(d)
			is(t, e, api.OK)
			_, e = w.m.step(w.own)
			is(t, e, api.OK)
			w.steps(allSteps - n - 1)
			continue
		}
		w.steps(allSteps - n)
	}
}

func TestP20_3_TheMarkIsRefused(t *testing.T) {
	w := three(t).steps(5)
	d := w.d
	for _, x := range []struct {
		tail uint64
		end  uint64
		want api.Errno
	}{
		{0, 0, api.ErrInput}, {0, 1, api.ErrInput}, {0, 5, api.ErrInput}, {7, 7, api.ErrInput}, {7, 9, api.ErrInput}, {300, 300, api.ErrInput}, {api.MaxPos, api.MaxPos, api.ErrInput},
	} {
		other := worldAt(t, usual(), x.tail)
		for other.d.Log.End() < x.end {
			other.tx()
		}
		d.Log = other.d.Log
		w.refused(d, x.want)
		other.tells()
	}
	w.steps(2)
	for _, x := range [][2]uint64{{6, 6}, {0, 6}, {3, 6}, {6, 8}, {5, 10}} {
		v := three(t).steps(5)
		other := worldAt(t, usual(), x[0])
		for other.d.Log.End() < x[1] {
			other.commits()
		}
		d := v.d
		d.Log = other.d.Log
		row, e := v.p.Step(d)
		is(t, e, api.OK)
		same(t, row, api.Row{Kind: api.RowMarked, Block: -1, Position: 6})
		if d.Log.Marked() != 6 || v.d.Log.Marked() != 0 {
			t.Errorf("%d and %d are marked", d.Log.Marked(), v.d.Log.Marked())
		}
	}
}

func TestP20_3_TheTargetIsBeyondTheLog(t *testing.T) {
	// A cache of another run: the round comes up to the mark, and is refused there again and again.
	for _, last := range []uint64{4, 5, 77, api.MaxPos - 1, api.MaxPos} {
		w := newWorld(t, usual())
		for range 4 {
			w.commits()
		}
		w.put(last, image(2, 7))
		w.steps(3)
		if target, _ := w.p.Target(); target != last+1 {
			t.Errorf("its target is %d", target)
		}
		for range 3 {
			w.fails(api.ErrInput)
		}
		if w.p.State() != point.Marking {
			t.Errorf("its state is %d", w.p.State())
		}
		if last > 5 {
			continue
		}
		for w.d.Log.End() <= last {
			w.fails(api.ErrInput)
			w.commits()
		}
		w.steps(2)
	}
}

func TestP20_3_FreeingIsRefused(t *testing.T) {
	w := three(t).steps(6)
	w.commits(image(0, 3))
	// Another mark, below the target, at the tail, and above it; then the target again.
	for _, mark := range []uint64{0, 1, 5, 7, 8} {
		w.both(func(d point.Desk) { is(t, d.Log.Mark(mark), api.OK) })
		if !w.p.Enabled(w.d) {
			t.Error("not enabled")
		}
		w.fails(api.ErrInput)
		w.fails(api.ErrInput)
	}
	w.both(func(d point.Desk) { is(t, d.Log.Mark(6), api.OK) })
	row, e := w.step()
	is(t, e, api.OK)
	same(t, row, api.Row{Kind: api.RowFreed, Block: -1, Position: 6, Count: 6})
}

func TestP20_3_TheLineHasTooLittle(t *testing.T) {
	for short := range 7 {
		w := three(t).steps(6)
		w.both(func(d point.Desk) { is(t, d.Line.Freed(short), api.OK) })
		if short == 0 {
			w.steps(1)
			continue
		}
		w.fails(api.ErrInput)
		w.fails(api.ErrInput)
		// What was committed since then counts for the line all the same.
		for range short - 1 {
			w.commits()
			w.fails(api.ErrInput)
		}
		w.commits()
		w.steps(1)
		if w.d.Line.Used() != 0 || w.d.Log.Used() != short {
			t.Errorf("Used %d, of the log %d", w.d.Line.Used(), w.d.Log.Used())
		}
	}
}

func TestP20_3_TheLogWasFreedAhead(t *testing.T) {
	// Somebody else has freed up to the target, or up to some way ahead of it: the rest is freed, if the line has it.
	for _, ahead := range []uint64{0, 1, 4, 6} {
		w := three(t).steps(6)
		w.both(func(d point.Desk) {
			is(t, d.Log.Mark(ahead), api.OK)
			_, e := d.Log.Free()
			is(t, e, api.OK)
			is(t, d.Line.Freed(int(ahead)), api.OK)
		})
		if ahead != 6 {
			w.fails(api.ErrInput)
			w.both(func(d point.Desk) { is(t, d.Log.Mark(6), api.OK) })
		}
		row, e := w.step()
		is(t, e, api.OK)
		same(t, row, api.Row{Kind: api.RowFreed, Block: -1, Position: 6, Count: 6 - int(ahead)})
	}
}

func TestP20_3_FreeingWithALogOfAnotherRun(t *testing.T) {
	// Its mark is the target by chance: it is freed as its own tail says.
	w := three(t).steps(6)
	other := worldAt(t, usual(), 6)
	d := w.d
	d.Log = other.d.Log
	row, e := w.p.Step(d)
	is(t, e, api.OK)
	same(t, row, api.Row{Kind: api.RowFreed, Block: -1, Position: 6})
	if d.Line.Used() != 6 || d.Cache.Len() != 0 || w.p.State() != point.Idle || w.d.Log.Tail() != 0 {
		t.Errorf("Used %d, %d cached, in %d", d.Line.Used(), d.Cache.Len(), w.p.State())
	}
	// Far above, the tail too: a target less it would be below 0.
	v := three(t).steps(6)
	d = v.d
	d.Log = worldAt(t, usual(), 1000).d.Log
	v.refused(d, api.ErrInput)
	d.Log = worldAt(t, usual(), api.MaxPos).d.Log
	v.refused(d, api.ErrInput)
	v.steps(1)
}

func TestP20_3_ErrInputGoesAheadOfTheLogsErrors(t *testing.T) {
	w := three(t).steps(6)
	w.tx()
	marked := w.d
	marked.Log = w.d.Log.Over(w.d.Disk.Copy())
	is(t, marked.Log.Mark(7), api.OK)
	marked.Log = marked.Log.Over(nil)
	w.refused(marked, api.ErrInput)
	short := w.d
	short.Log = w.d.Log.Over(nil)
	short.Line = newWorld(t, usual()).d.Line
	w.refused(short, api.ErrInput)
	both := marked
	both.Line = short.Line
	w.refused(both, api.ErrInput)
	alone := w.d
	alone.Log = w.d.Log.Over(nil)
	w.refused(alone, api.ErrHandle)
	// A pointer that is nil goes ahead of all.
	both.Cache = nil
	w.refused(both, api.ErrHandle)
	w.steps(1)
}

func TestP20_3_FreeingFlushesAndWritesNothing(t *testing.T) {
	// What somebody else has written over the superblock is made durable as it stands there.
	w := three(t).steps(6)
	strange := bytes.Repeat([]byte{9}, api.Size)
	w.both(func(d point.Desk) { is(t, d.Disk.Write(0, strange), api.OK) })
	w.steps(1)
	if !bytes.Equal(w.d.Disk.Image()[:api.Size], strange) || len(w.d.Disk.Waiting()) != 0 {
		t.Error("the superblock was written anew")
	}
}

func TestP20_3_TheDropIsOfTheDesksCache(t *testing.T) {
	// Of another cache goes what has a block and a position of the copy, whatever its value.
	w := three(t).steps(6)
	known, e := cache.New(6)
	is(t, e, api.OK)
	is(t, known.Put([]api.Image{image(1, 77), image(2, 78)}, 2), api.OK)
	is(t, known.Put([]api.Image{image(0, 1), image(4, 79)}, 5), api.OK)
	d := w.d
	d.Cache = known
	_, e = w.p.Step(d)
	is(t, e, api.OK)
	want := []cache.Entry{{Block: 0, Value: filled(1), Position: 5}, {Block: 2, Value: filled(78), Position: 2}}
	if l := known.Entries(); !slices.Equal(l, want) {
		t.Errorf("it has %v", l)
	}
	if w.d.Cache.Len() != 3 {
		t.Error("the other cache has been dropped")
	}
}

func TestP20_4_HowManySteps(t *testing.T) {
	c := chance(4)
	for _, cfg := range []api.Config{
		{Blocks: 6, LogCap: 20, MaxRes: 3, High: 1, Clients: 2},
		{Blocks: 1, LogCap: 2, MaxRes: 1, High: 1, Clients: 1},
		{Blocks: 64, LogCap: 64, MaxRes: 16, High: 30, Clients: 8},
	} {
		w := newWorld(t, cfg)
		rounds := map[int]int{}
		for range 60 {
			for !w.p.Enabled(w.d) {
				w.other(&c)
			}
			n := w.d.Cache.Len()
			w.steps(1)
			steps := 1
			for w.p.State() != point.Idle {
				for range c.below(4) {
					w.other(&c)
				}
				w.steps(1)
				steps++
			}
			if steps != n+4 {
				t.Fatalf("%d steps of %d entries", steps, n)
			}
			rounds[n]++
		}
		if len(rounds) < min(3, cfg.Blocks) {
			t.Errorf("%+v: rounds by their entries: %v", cfg, rounds)
		}
	}
}

// other does something that is none of the checkpointer's: one more begins, is let in, is written, is committed or acknowledged, leaves, or flushes.
func (w *world) other(c *chance) {
	w.t.Helper()
	blocks := w.d.Config.Blocks
	in := w.d.Line.In()
	switch i := c.below(10); {
	case i == 0:
		w.both(func(d point.Desk) { d.Log.Flush() })
	case i <= 2 && len(w.d.Line.Waiting()) < 4:
		set := []int{c.below(blocks)}
		for range c.below(w.d.Config.MaxRes) {
			set = append(set, c.below(blocks))
		}
		w.begin(set...)
	case i <= 4 && w.d.Line.Fits():
		w.enter()
	case i <= 7 && w.writing != nil:
		w.record()
	case i <= 7 && len(in) > 0:
		w.writeSome(in[c.below(len(in))], c)
	case len(w.pending) > 0:
		w.acknowledge()
	}
}

// writeSome lets one that is in be written, with at most as many images as it has declared; often with one block that has been written ahead of it, and its value.
func (w *world) writeSome(ticket uint64, c *chance) {
	w.t.Helper()
	left, _ := w.d.Line.Left(ticket)
	blocks := map[int]api.Value{}
	for range c.below(left) {
		blocks[c.below(w.d.Config.Blocks)] = filled(byte(c.below(256)))
	}
	if l := w.d.Cache.Entries(); len(l) > 0 && len(blocks) > 0 && c.below(2) == 0 {
		entry := l[c.below(len(l))]
		blocks = map[int]api.Value{entry.Block: entry.Value}
	}
	var images []api.Image
	for block := range w.d.Config.Blocks {
		if v, ok := blocks[block]; ok {
			images = append(images, api.Image{Block: block, Value: v})
		}
	}
	w.writes(ticket, images...)
}

// homes tells all homes as the disk reads them.
func (w *world) homes() []api.Value {
	w.t.Helper()
	values, e := home.All(w.d.Disk, w.d.Config)
	is(w.t, e, api.OK)
	return values
}

func TestP20_5_PutBehindEachStep(t *testing.T) {
	for n := 1; n < allSteps; n++ {
		for _, images := range [][]api.Image{
			{}, {image(0, 1)}, {image(5, 1)}, {image(1, 99)}, {image(1, 11)}, {image(4, 24)}, {image(2, 22), image(4, 99)},
			{image(1, 11), image(2, 22), image(4, 24)}, {image(0, 7), image(1, 8), image(3, 9)}, {image(4, 14)}, {{Block: 2}},
		} {
			w := three(t).steps(n)
			w.tx(images...)
			want := w.p.Left()
			w.steps(allSteps - n)
			if homes := w.homes(); !slices.Equal(homes, []api.Value{{}, filled(11), filled(22), {}, filled(24), {}}) {
				t.Errorf("%v behind %d steps: the homes are %v, %v were left", images, n, homes, want)
			}
			var kept []cache.Entry
			for _, i := range images {
				kept = append(kept, cache.Entry{Block: i.Block, Value: i.Value, Position: uint64(6 + len(images))})
			}
			if l := w.d.Cache.Entries(); !slices.Equal(l, kept) {
				t.Errorf("%v behind %d steps: the cache has %v", images, n, l)
			}
			if w.d.Log.Tail() != 6 || w.d.Line.Used() != len(images)+1 {
				t.Errorf("%v behind %d steps: Tail %d, Used %d", images, n, w.d.Log.Tail(), w.d.Line.Used())
			}
			for w.d.Line.Used() < 4 {
				w.tx()
			}
			if n := w.round(); n != len(images)+4 {
				t.Errorf("the next round has %d steps", n)
			}
			for _, i := range images {
				if v := w.homes()[i.Block]; v != i.Value {
					t.Errorf("block %d's home is %v", i.Block, v)
				}
			}
		}
	}
}

func TestP20_5_PutAgainAndAgain(t *testing.T) {
	w := three(t)
	for n := range allSteps {
		if n > 0 {
			w.tx(image(4, byte(40+n)))
		}
		w.steps(1)
	}
	// The last one of them was put at 6 + 6 * 2 - 1.
	if l := w.d.Cache.Entries(); !slices.Equal(l, []cache.Entry{{Block: 4, Value: filled(46), Position: 17}}) {
		t.Errorf("the cache has %v", l)
	}
	if v := w.homes()[4]; v != filled(24) {
		t.Errorf("the home is %v", v)
	}
	if w.d.Log.Tail() != 6 || w.d.Log.End() != 18 || w.d.Line.Used() != 12 {
		t.Errorf("the log is %d to %d, Used %d", w.d.Log.Tail(), w.d.Log.End(), w.d.Line.Used())
	}
	w.round()
	if v := w.homes()[4]; v != filled(46) || w.d.Cache.Len() != 0 || w.d.Log.Tail() != 18 {
		t.Errorf("the home is %v", v)
	}
}

func TestP20_5_DroppedAheadByAnother(t *testing.T) {
	// Entries that are gone when the round ends are nobody's loss; what was put in their place stays.
	for n := 1; n < allSteps; n++ {
		w := three(t).steps(n)
		w.both(func(d point.Desk) { d.Cache.Drop(d.Cache.Entries()) })
		w.put(8, image(2, 22))
		w.steps(allSteps - n)
		if l := w.d.Cache.Entries(); !slices.Equal(l, []cache.Entry{{Block: 2, Value: filled(22), Position: 8}}) {
			t.Errorf("the cache has %v", l)
		}
	}
}

func TestP20_5_AppendedAndNotAcknowledged(t *testing.T) {
	for n := range allSteps {
		w := three(t).steps(n)
		w.begin(0, 4)
		w.writes(w.enter(), image(0, 60), image(4, 64))
		for w.writing != nil {
			w.record()
		}
		w.commits(image(1, 71))
		w.begin(2)
		w.writes(w.enter(), image(2, 82))
		w.record()
		w.steps(allSteps - n)
		if w.d.Log.Tail() != 6 || w.d.Log.End() != 12 || w.d.Line.Used() != 6 || w.d.Cache.Len() != 0 {
			t.Errorf("behind %d steps: the log is %d to %d, Used %d, %d cached", n, w.d.Log.Tail(), w.d.Log.End(), w.d.Line.Used(), w.d.Cache.Len())
		}
		if homes := w.homes(); !slices.Equal(homes, []api.Value{{}, filled(11), filled(22), {}, filled(24), {}}) {
			t.Errorf("the homes are %v", homes)
		}
		// Used is High or more, but nothing of it has been acknowledged.
		w.fails(api.ErrIdle)
		w.acknowledge()
		row, e := w.step()
		is(t, e, api.OK)
		same(t, row, api.Row{Kind: api.RowChosen, Block: -1, Position: 9, Count: 2})
	}
}

func TestP20_6_BehindARoundAlone(t *testing.T) {
	c := chance(6)
	ends, stands := 0, 0
	for n := range 150 {
		cfg := []api.Config{
			{Blocks: 6, LogCap: 20, MaxRes: 3, High: 4, Clients: 2},
			{Blocks: 2, LogCap: 3, MaxRes: 2, High: 3, Clients: 1},
			{Blocks: 20, LogCap: 64, MaxRes: 16, High: 50, Clients: 8},
		}[n%3]
		w := worldAt(t, cfg, uint64(n*n))
		for range 3 {
			for !w.p.Enabled(w.d) {
				w.other(&c)
			}
			entries := w.d.Cache.Entries()
			want := w.homes()
			for _, entry := range entries {
				want[entry.Block] = entry.Value
			}
			if n := w.round(); n != len(entries)+4 {
				t.Fatalf("%d steps of %d entries", n, len(entries))
			}
			if w.d.Cache.Len() != 0 || len(w.d.Disk.Waiting()) != 0 || !slices.Equal(w.homes(), want) {
				t.Fatalf("%d cached, %d wait, the homes are %v, want %v", w.d.Cache.Len(), len(w.d.Disk.Waiting()), w.homes(), want)
			}
			unacknowledged := 0
			for _, x := range w.pending {
				unacknowledged += len(x.images) + 1
			}
			if w.writing != nil {
				unacknowledged += w.writing.written
			}
			if w.d.Log.Used() != unacknowledged || w.d.Line.Used() != unacknowledged {
				t.Fatalf("the log has %d, the line %d, %d are not acknowledged", w.d.Log.Used(), w.d.Line.Used(), unacknowledged)
			}
			if unacknowledged == 0 {
				ends++
			} else {
				stands++
			}
			w.fails(api.ErrIdle)
		}
	}
	if ends < 20 || stands < 20 {
		t.Errorf("%d rounds came to the end, %d not", ends, stands)
	}
}

// superblock tells the superblock that a disk's durable bytes begin with.
func superblock(t *testing.T, image []byte) super.Super {
	t.Helper()
	s, e := super.Decode(image[:api.Size])
	is(t, e, api.OK)
	return s
}

// durableHomes tells the homes of a disk's durable bytes.
func durableHomes(t *testing.T, d point.Desk) []api.Value {
	t.Helper()
	disk, e := sector.Load(d.Disk.Image())
	is(t, e, api.OK)
	values, e := home.All(disk, d.Config)
	is(t, e, api.OK)
	return values
}

func TestP20_7_TheOrderOnTheDisk(t *testing.T) {
	w := three(t)
	want := []api.Value{{}, filled(11), filled(22), {}, filled(24), {}}
	for n := range allSteps + 1 {
		marks := 0
		for _, x := range w.d.Disk.Waiting() {
			if x.Sector == 0 {
				marks++
				if s := superblock(t, x.Data); s.Tail != 6 || s.Life != 1 || s.Config != w.d.Config {
					t.Errorf("behind %d steps the superblock %+v is written", n, s)
				}
			}
		}
		if (marks > 0) != (n == 6) || marks > 1 {
			t.Errorf("behind %d steps %d superblocks wait", n, marks)
		}
		if tail := superblock(t, w.d.Disk.Image()).Tail; (tail == 6) != (n == 7) || tail != 0 && tail != 6 {
			t.Errorf("behind %d steps the durable superblock says %d", n, tail)
		}
		if n >= 5 && !slices.Equal(durableHomes(t, w.d), want) {
			t.Errorf("behind %d steps the durable homes are %v", n, durableHomes(t, w.d))
		}
		if (w.d.Line.Used() == 6) != (n < 7) || (w.d.Log.Tail() == 0) != (n < 7) {
			t.Errorf("behind %d steps Used is %d, Tail %d", n, w.d.Line.Used(), w.d.Log.Tail())
		}
		if n < allSteps {
			w.steps(1)
		}
	}
}

// store tells what a crashed disk says: its homes, and over them what its log has.
func store(t *testing.T, disk *sector.Disk, c api.Config) []api.Value {
	t.Helper()
	values, e := home.All(disk, c)
	is(t, e, api.OK)
	log, e := scan.Read(disk, c)
	is(t, e, api.OK)
	for _, i := range scan.Newest(log.Txs) {
		values[i.Block] = i.Value
	}
	return values
}

// crashes tries all crashes of a world: each of them leaves the store that was acknowledged, or one with some of the first of those that were not.
func (w *world) crashes(stores [][]api.Value) int {
	w.t.Helper()
	waiting := len(w.d.Disk.Waiting())
	for kept := range 1 << waiting {
		var keep []int
		for i := range waiting {
			if kept>>i&1 != 0 {
				keep = append(keep, i)
			}
		}
		disk := w.d.Disk.Copy()
		disk.Crash(keep...)
		got := store(w.t, disk, w.d.Config)
		if !slices.ContainsFunc(stores, func(l []api.Value) bool { return slices.Equal(l, got) }) {
			w.t.Fatalf("in %d a crash that keeps %v of %d leaves %v", w.p.State(), keep, waiting, got)
		}
	}
	return 1 << waiting
}

func TestP20_7_CrashesAtEachStep(t *testing.T) {
	c := api.Config{Blocks: 4, LogCap: 8, MaxRes: 2, High: 3, Clients: 1}
	first := []api.Value{filled(3), {}, filled(5), {}}
	second := []api.Value{filled(3), filled(7), filled(6), {}}
	// One more is appended behind one of the steps; not acknowledged, and never flushed by itself.
	for late := -1; late < 7; late++ {
		w := worldAt(t, c, 0)
		w.tx(image(0, 1), image(2, 5))
		w.tx(image(0, 3))
		w.both(func(d point.Desk) { d.Log.Flush() })
		stores := [][]api.Value{first}
		tried := w.crashes(stores)
		for n := range 6 {
			w.steps(1)
			if n == late {
				w.commits(image(1, 7), image(2, 6))
				stores = append(stores, second)
			}
			tried += w.crashes(stores)
		}
		if w.p.State() != point.Idle || tried < 8 {
			t.Errorf("in %d behind %d crashes", w.p.State(), tried)
		}
	}
}

func TestP20_7_CrashesInLongRuns(t *testing.T) {
	// What was freed may be written anew: then no crash may bring back a superblock that begins with it.
	c := api.Config{Blocks: 3, LogCap: 4, MaxRes: 2, High: 3, Clients: 1}
	w := newWorld(t, c)
	known := make([]api.Value, 3)
	r := chance(70)
	for n := range 200 {
		images := []api.Image{image(r.below(3), byte(n+1)), image(0, byte(n+2))}
		if images[0].Block > 0 {
			images[0], images[1] = images[1], images[0]
		} else {
			images = images[:1]
		}
		w.commits(images...)
		after := slices.Clone(known)
		for _, i := range images {
			after[i.Block] = i.Value
		}
		w.crashes([][]api.Value{known, after})
		w.both(func(d point.Desk) { d.Log.Flush() })
		known = after
		w.acknowledge()
		w.crashes([][]api.Value{known})
		for w.p.Enabled(w.d) || w.d.Line.Used() > 1 {
			if !w.p.Enabled(w.d) {
				w.commits()
				w.both(func(d point.Desk) { d.Log.Flush() })
				w.acknowledge()
			}
			w.steps(1)
			w.crashes([][]api.Value{known})
		}
	}
	if w.d.Log.Tail() < 300 {
		t.Errorf("Tail is %d", w.d.Log.Tail())
	}
}

func TestLogsThatGoRound(t *testing.T) {
	for _, logCap := range []int{2, 3, 5, 64} {
		c := api.Config{Blocks: 2, LogCap: logCap, MaxRes: 1, High: logCap, Clients: 1}
		w := worldAt(t, c, 1000)
		for round := range 150 {
			from := w.d.Log.Tail()
			for n := 0; w.d.Log.Used() < logCap; n++ {
				if logCap-w.d.Log.Used() >= 2 {
					w.tx(image(n%2, byte(round)))
				} else {
					// One slot alone is a commit's, whose reservation is two: it does not fit, and so the round begins.
					w.begin(0)
					break
				}
			}
			n := len(w.d.Cache.Entries())
			row, e := w.step()
			is(t, e, api.OK)
			same(t, row, api.Row{Kind: api.RowChosen, Block: -1, Position: w.d.Log.End(), Count: n})
			w.steps(n + 2)
			row, e = w.step()
			is(t, e, api.OK)
			same(t, row, api.Row{Kind: api.RowFreed, Block: -1, Position: w.d.Log.End(), Count: int(w.d.Log.End() - from)})
			for len(w.d.Line.Waiting()) > 0 {
				w.writes(w.enter(), image(0, byte(round+1)))
				w.record()
				w.record()
				w.acknowledge()
			}
		}
		if w.d.Log.End() < 1000+150*uint64(logCap-1) {
			t.Errorf("the log ends at %d", w.d.Log.End())
		}
	}
}

func TestTheEndOfPositions(t *testing.T) {
	c := api.Config{Blocks: 3, LogCap: 4, MaxRes: 2, High: 3, Clients: 2}
	w := worldAt(t, c, api.MaxPos-3)
	w.tx(image(0, 1), image(2, 2))
	if n := w.round(); n != 6 || w.d.Log.Tail() != api.MaxPos {
		t.Errorf("%d steps, Tail %d", n, w.d.Log.Tail())
	}
	w.fails(api.ErrIdle)
}

// turn does one of a few things with a world: the checkpointer's step, or one of the others'.
func (w *world) turn(who int) {
	w.t.Helper()
	switch {
	case who == 0:
		w.step()
	case who == 1 && w.d.Line.Fits():
		w.enter()
	case who == 1 && len(w.d.Line.Waiting()) == 0:
		w.begin(1)
	case who == 2 && w.writing != nil:
		w.record()
	case who == 2 && len(w.d.Line.In()) > 0:
		w.writes(w.d.Line.In()[0], image(1, byte(w.d.Log.End())))
	case who == 3 && len(w.pending) > 0:
		w.acknowledge()
	}
}

// allRuns does all runs of so many turns.
func allRuns(w *world, turns int) int {
	if turns == 0 {
		return 1
	}
	n := 0
	for who := range 4 {
		x := w.copy()
		x.turn(who)
		n += allRuns(x, turns-1)
	}
	w.tells()
	return n
}

func TestP20_3_AllShortRuns(t *testing.T) {
	c := api.Config{Blocks: 2, LogCap: 4, MaxRes: 1, High: 2, Clients: 1}
	if n := allRuns(newWorld(t, c), 5); n != 1024 {
		t.Errorf("%d runs", n)
	}
	for n := range 6 {
		w := newWorld(t, c)
		w.tx(image(0, 1))
		w.begin(0)
		w.enter()
		w.steps(min(n, 5))
		allRuns(w, 6)
	}
	v := newWorld(t, c)
	v.commits(image(0, 1))
	v.commits(image(1, 2))
	v.begin(0)
	v.acknowledge()
	allRuns(v, 6)
}

// spoilAnswers writes over all that a checkpointer hands out, and into the room behind it, and lets it grow.
func (w *world) spoilAnswers() {
	w.t.Helper()
	junk := cache.Entry{Block: 3, Value: filled(255), Position: 1}
	for _, l := range [][]cache.Entry{w.p.Left(), append(w.p.Left(), junk, junk), append(w.p.Left(), junk)} {
		l = l[:cap(l)]
		for i := range l {
			l[i] = junk
		}
	}
	w.tells()
}

// spoilt does a step with a desk of its own, and writes over it and over what is handed out.
func (w *world) spoilt() {
	w.t.Helper()
	keep := w.d
	row, _ := w.step()
	_ = append(row.Set, 3, 2, 1)
	if w.d != keep {
		w.t.Fatal("another desk")
	}
	w.d = point.Desk{}
	w.p.Enabled(w.d)
	w.d = keep
	w.spoilAnswers()
}

// anyTurn does something with a world: the checkpointer, or others.
func (w *world) anyTurn(c *chance) {
	w.t.Helper()
	if c.below(4) == 0 {
		w.spoilt()
		return
	}
	w.other(c)
}

func TestR3_LongRuns(t *testing.T) {
	for n, c := range []api.Config{
		{Blocks: 4, LogCap: 6, MaxRes: 3, High: 6, Clients: 2},
		{Blocks: 1, LogCap: 2, MaxRes: 1, High: 1, Clients: 3},
		{Blocks: 8, LogCap: 9, MaxRes: 4, High: 5, Clients: 8},
		{Blocks: 64, LogCap: 64, MaxRes: 16, High: 40, Clients: 8},
		{Blocks: 30, LogCap: 64, MaxRes: 2, High: 60, Clients: 6},
	} {
		r := chance(2000 + n)
		w := newWorld(t, c)
		seen := map[int]int{}
		for range 4000 {
			w.anyTurn(&r)
			seen[w.p.State()]++
		}
		for state := point.Idle; state <= point.Freeing; state++ {
			if seen[state] < 30 {
				t.Errorf("%+v: %d times in %d", c, seen[state], state)
			}
		}
		if w.d.Log.Tail() < 2*uint64(c.LogCap) {
			t.Errorf("%+v: Tail is %d", c, w.d.Log.Tail())
		}
	}
}

func TestR3_LongRunsWithCopies(t *testing.T) {
	c := chance(78)
	worlds := []*world{newWorld(t, api.Config{Blocks: 5, LogCap: 12, MaxRes: 3, High: 6, Clients: 4})}
	for range 3000 {
		w := worlds[c.below(len(worlds))]
		w.anyTurn(&c)
		if c.below(10) == 0 {
			twin := w.copy()
			if len(worlds) < 5 {
				worlds = append(worlds, twin)
			} else {
				worlds[c.below(5)] = twin
			}
		}
		for _, x := range worlds {
			x.tells()
		}
	}
}

// mixed tells a desk of parts of several worlds, and its like of the models' parts.
func mixed(worlds []*world, c *chance) (d, own point.Desk) {
	any := func() *world { return worlds[c.below(len(worlds))] }
	x := any()
	d.Config = x.d.Config
	if c.below(3) > 0 {
		x = any()
	}
	d.Disk, own.Disk = x.d.Disk, x.own.Disk
	x = any()
	d.Log, own.Log = x.d.Log, x.own.Log
	if c.below(12) == 0 {
		d.Log, own.Log = d.Log.Over(nil), own.Log.Over(nil)
	}
	x = any()
	d.Line, own.Line = x.d.Line, x.own.Line
	x = any()
	d.Cache, own.Cache = x.d.Cache, x.own.Cache
	if c.below(12) == 0 {
		d.Config = api.Config{High: c.below(70) - 3}
	}
	own.Config = d.Config
	return d, own
}

func TestR1_DesksOfOtherRuns(t *testing.T) {
	// 20.2 and 20.3 hold word for word, whatever the parts have been through.
	c := chance(10)
	seen := map[api.Errno]int{}
	freed := 0
	for n := range 100 {
		var worlds []*world
		for _, cfg := range []api.Config{
			{Blocks: 4, LogCap: 6, MaxRes: 3, High: 3, Clients: 2},
			{Blocks: 4, LogCap: 6, MaxRes: 2, High: 6, Clients: 2},
			{Blocks: 1, LogCap: 2, MaxRes: 1, High: 1, Clients: 1},
			{Blocks: 64, LogCap: 64, MaxRes: 16, High: 64, Clients: 8},
		}[:2+n%3] {
			worlds = append(worlds, newWorld(t, cfg))
		}
		p, m := point.New(), &model{}
		for range 150 {
			for range 4 {
				worlds[c.below(len(worlds))].mayOther(&c)
			}
			d, own := mixed(worlds, &c)
			on, wantOn := p.Enabled(d), m.enabled(own)
			row, e := p.Step(d)
			want, wantE := m.step(own)
			if e != wantE || on != wantOn || p.State() != m.state() || !slices.Equal(p.Left(), m.left()) {
				t.Fatalf("Enabled %v, Step %d, in %d, %v left, want %v, %d, %d, %v", on, e, p.State(), p.Left(), wantOn, wantE, m.state(), m.left())
			}
			same(t, row, want)
			seen[e]++
			if row.Kind == api.RowFreed {
				freed++
			}
			for _, w := range worlds {
				w.tells()
			}
		}
	}
	for _, e := range []api.Errno{api.OK, api.ErrIdle, api.ErrInput, api.ErrHandle, api.ErrConfig, api.ErrSector, api.ErrBlock} {
		if seen[e] < 5 {
			t.Errorf("the answer %d came %d times", e, seen[e])
		}
	}
	if freed < 50 {
		t.Errorf("%d rounds came to their end", freed)
	}
}

// mayOther does what others do, as long as the world's log, line and cache go together: a round with others' parts makes them go apart.
func (w *world) mayOther(c *chance) {
	w.t.Helper()
	if w.d.Line.Used() == w.d.Log.Used() && w.d.Log.Used() < w.d.Config.LogCap {
		w.other(c)
	}
}

func TestR5_TwoAlike(t *testing.T) {
	a, b := three(t), three(t)
	for range allSteps + 2 {
		rowA, eA := a.step()
		rowB, eB := b.step()
		same(t, rowA, rowB)
		is(t, eA, eB)
	}
}

func TestR6_AskingChangesNothing(t *testing.T) {
	for n := range allSteps + 1 {
		w := three(t).steps(n)
		for range 3 {
			w.p.State()
			w.p.Target()
			w.p.Left()
			w.p.Enabled(w.d)
			w.p.Enabled(newWorld(t, usual()).d)
			w.p.Enabled(point.Desk{})
			w.p.Copy()
			w.tells()
		}
		w.steps(allSteps - n)
	}
}

// example is the configuration of the chapter's examples.
func example() api.Config {
	return api.Config{Blocks: 3, LogCap: 4, MaxRes: 2, High: 3, Clients: 2}
}

func TestExamples1And2(t *testing.T) {
	w := newWorld(t, example())
	if w.p.Enabled(w.d) {
		t.Error("enabled, and nothing done")
	}
	w.fails(api.ErrIdle)
	w.commits(image(0, 0xa), image(2, 0xb))
	if w.p.Enabled(w.d) || w.d.Line.Used() != 3 {
		t.Errorf("enabled ahead of the acknowledgement, Used %d", w.d.Line.Used())
	}
	w.acknowledge()
	if !w.p.Enabled(w.d) {
		t.Error("not enabled")
	}
	for _, want := range []api.Row{
		{Kind: api.RowChosen, Block: -1, Position: 3, Count: 2},
		{Kind: api.RowCarried, Block: 0, Value: filled(0xa)},
		{Kind: api.RowCarried, Block: 2, Value: filled(0xb)},
		{Kind: api.RowFlushed, Block: -1, Count: 5},
		{Kind: api.RowMarked, Block: -1, Position: 3},
		{Kind: api.RowFreed, Block: -1, Position: 3, Count: 3},
	} {
		row, e := w.step()
		is(t, e, api.OK)
		same(t, row, want)
	}
	v, e := home.Load(w.d.Disk, w.d.Config, 2)
	is(t, e, api.OK)
	if w.d.Log.Tail() != 3 || w.d.Line.Used() != 0 || w.d.Cache.Len() != 0 || v != filled(0xb) {
		t.Errorf("Tail %d, Used %d, %d cached, %v", w.d.Log.Tail(), w.d.Line.Used(), w.d.Cache.Len(), v)
	}
}

func TestExample3(t *testing.T) {
	w := newWorld(t, example())
	w.tx()
	if w.p.Enabled(w.d) {
		t.Error("enabled with nobody in the line")
	}
	x := w.copy()
	x.begin(0, 1)
	if x.p.Enabled(x.d) {
		t.Error("enabled, though the first one fits")
	}
	w.begin(0)
	w.enter()
	w.begin(0, 1)
	if !w.p.Enabled(w.d) || w.d.Line.Reserved() != 2 {
		t.Errorf("not enabled, Reserved %d", w.d.Line.Reserved())
	}
	for _, want := range []api.Row{
		{Kind: api.RowChosen, Block: -1, Position: 1},
		{Kind: api.RowFlushed, Block: -1, Count: 1},
		{Kind: api.RowMarked, Block: -1, Position: 1},
		{Kind: api.RowFreed, Block: -1, Position: 1, Count: 1},
	} {
		row, e := w.step()
		is(t, e, api.OK)
		same(t, row, want)
	}
	w.fails(api.ErrIdle)
}

func TestExample4(t *testing.T) {
	w := newWorld(t, example())
	w.tx(image(0, 0xa), image(2, 0xb))
	w.steps(1)
	w.put(5, image(2, 0xc))
	w.steps(1)
	row, e := w.step()
	is(t, e, api.OK)
	same(t, row, api.Row{Kind: api.RowCarried, Block: 2, Value: filled(0xb)})
	w.steps(3)
	if l := w.d.Cache.Entries(); !slices.Equal(l, []cache.Entry{{Block: 2, Value: filled(0xc), Position: 5}}) {
		t.Errorf("the cache has %v", l)
	}
}
