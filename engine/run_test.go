package engine_test

import (
	"fmt"
	"math"
	"slices"
	"testing"

	"wicket/api"
	"wicket/engine"
)

// chance tells numbers that look like chance and are the same in each run.
type chance uint64

func (c *chance) next() uint64 {
	*c ^= *c << 13
	*c ^= *c >> 7
	*c ^= *c << 17
	return uint64(*c)
}

// below tells one of 0 to n - 1.
func (c *chance) below(n int) int {
	return int(c.next() % uint64(n))
}

// oneIn tells true once in n times.
func (c *chance) oneIn(n int) bool {
	return c.below(n) == 0
}

// value tells one that hardly comes twice; now and then zeros.
func (c *chance) value() api.Value {
	var v api.Value
	if !c.oneIn(12) {
		copy(v[:], number(c.next(), 8))
		copy(v[24:], number(c.next(), 8))
	}
	return v
}

// some tells some of the numbers below n, doubles and others among them.
func (c *chance) some(n int) []int {
	var l []int
	for range c.below(2*n + 1) {
		l = append(l, c.below(n+2)-1)
	}
	return l
}

// config tells a configuration of its parts, in their order.
func config(blocks, logCap, maxRes, high, clients int) api.Config {
	return api.Config{Blocks: blocks, LogCap: logCap, MaxRes: maxRes, High: high, Clients: clients}
}

// set tells a declared set; now and then one that is rejected.
func (c *chance) set(of api.Config) []int {
	switch c.below(14) {
	case 0:
		return nil
	case 1:
		return []int{c.below(of.Blocks), of.Blocks, c.below(of.Blocks)}
	case 2:
		return []int{-1, 0}
	case 3: // too many, if there are that many
		var l []int
		for b := range of.Blocks {
			l = append(l, b)
		}
		return l
	}
	var different []int
	for range 1 + c.below(of.MaxRes) {
		different = append(different, c.below(of.Blocks))
	}
	for range c.below(3) {
		different = append(different, different[c.below(len(different))])
	}
	return different
}

// near tells a block of a set; now and then any other number.
func (c *chance) near(of api.Config, set []int) int {
	switch {
	case c.oneIn(9) || len(set) == 0:
		return c.below(of.Blocks+3) - 1
	case c.oneIn(40):
		return []int{math.MinInt, math.MaxInt}[c.below(2)]
	}
	return set[c.below(len(set))]
}

// program tells about n operations: transactions that commit, abort or are left, and operations that are refused.
func (c *chance) program(of api.Config, n int) []api.Op {
	var l []api.Op
	for len(l) < n {
		set := c.set(of)
		l = append(l, api.Op{Kind: api.OpBegin, Set: set})
		for range c.below(5) {
			switch c.below(9) {
			case 0:
				l = append(l, api.Op{Kind: api.OpBegin, Set: c.set(of)})
			case 1, 2, 3:
				l = append(l, api.Op{Kind: api.OpRead, Block: c.near(of, set)})
			default:
				l = append(l, api.Op{Kind: api.OpWrite, Block: c.near(of, set), Value: c.value()})
			}
		}
		switch c.below(8) {
		case 0:
			l = append(l, api.Op{Kind: api.OpAbort})
		case 1: // what comes next is met within this one
		default:
			l = append(l, api.Op{Kind: api.OpCommit})
		}
		if c.oneIn(6) {
			l = append(l, api.Op{Kind: 2 + c.below(4), Block: c.near(of, set), Set: c.some(3), Value: c.value()})
		}
	}
	return l[:min(len(l), n)]
}

// programs tells one for each client, of up to so many operations.
func (c *chance) programs(of api.Config, most int) [][]api.Op {
	l := make([][]api.Op, of.Clients)
	for n := range l {
		l[n] = c.program(of, c.below(most+1))
	}
	return l
}

// keep tells numbers for a crash behind which so many writes wait: none, all, or some, in any order, with doubles and others.
func (c *chance) keep(waiting int) []int {
	switch c.below(4) {
	case 0:
		return nil
	case 1:
		var l []int
		for i := range waiting {
			l = append(l, waiting-1-i)
		}
		return append(l, math.MinInt, math.MaxInt)
	}
	return c.some(waiting)
}

// pick tells a pick: any actor's number and others, once in so many times a crash (0: never), of whatever number.
func (c *chance) pick(e *engine.Engine, crashes int) api.Pick {
	if crashes > 0 && c.oneIn(crashes) {
		actor := []int{math.MinInt, math.MaxInt, c.below(20) - 5}[c.below(3)]
		return api.Pick{Crash: true, Actor: actor, Keep: c.keep(len(e.Disk().Waiting()))}
	}
	return api.Pick{Actor: c.below(e.Actors()+2) - 1, Keep: c.some(1)}
}

// is holds an error against another one.
func is(t *testing.T, got, want api.Errno) {
	t.Helper()
	must(t, got == want, "it answers %d, want %d", got, want)
}

// sameRow tells whether two rows are alike, field by field.
func sameRow(a, b api.Row) bool {
	return a.Kind == b.Kind && a.Life == b.Life && a.Actor == b.Actor && a.Ticket == b.Ticket && a.Block == b.Block && a.Value == b.Value &&
		a.Position == b.Position && a.Count == b.Count && a.Err == b.Err && slices.Equal(a.Set, b.Set)
}

// sameView tells whether two views are alike, field by field.
func sameView(a, b engine.View) bool {
	return a.State == b.State && a.Place == b.Place && a.Ticket == b.Ticket &&
		slices.Equal(a.Set, b.Set) && slices.Equal(a.Locked, b.Locked) && slices.Equal(a.Writes, b.Writes)
}

// view tells a client as the model has it.
func (m *model) view(n int) engine.View {
	p := m.persons[n]
	v := engine.View{State: p.state, Place: m.places[n], Ticket: p.ticket, Set: p.set, Locked: p.set[:p.locked]}
	for b := range m.c.Blocks {
		if x, ok := p.writes[b]; ok {
			v.Writes = append(v.Writes, api.Image{Block: b, Value: x})
		}
	}
	return v
}

// alike holds all that an engine tells against the model.
func alike(t *testing.T, e *engine.Engine, m *model) {
	t.Helper()
	must(t, e.Actors() == m.c.Clients+3 && e.Running() == !m.recovers, "%d actors, running %v", e.Actors(), e.Running())
	for n := -2; n < m.c.Clients+6; n++ {
		must(t, e.Enabled(n) == m.enabled(n), "Enabled(%d) = %v", n, e.Enabled(n))
	}
	for n := range m.c.Clients {
		v, ok := e.Client(n)
		must(t, ok && sameView(v, m.view(n)), "Client(%d) = %+v, want %+v", n, v, m.view(n))
	}
	used, reserved := e.Room()
	wantUsed, wantReserved := m.room()
	must(t, used == wantUsed && reserved == wantReserved, "Room = %d, %d, want %d, %d", used, reserved, wantUsed, wantReserved)
	must(t, slices.Equal(e.Waits(), m.waits()), "Waits = %v, want %v", e.Waits(), m.waits())
	must(t, slices.Equal(e.Store(), m.store()), "Store = %x, want %x", e.Store(), m.store())
	d := e.Disk()
	must(t, slices.Equal(d.Image(), m.image()), "the disk's durable bytes differ")
	list := d.Waiting()
	must(t, len(list) == len(m.waiting), "%d writes wait, want %d", len(list), len(m.waiting))
	for i, w := range m.waiting {
		must(t, list[i].Sector == w.sector && slices.Equal(list[i].Data, w.data[:]), "write %d waits for sector %d, want %d, or its bytes differ", i, list[i].Sector, w.sector)
	}
}

// run is an engine beside its model and its judge.
type run struct {
	e *engine.Engine
	m *model
	j *judge
}

// started tells a run of a new engine.
func started(t *testing.T, c api.Config, programs [][]api.Op) run {
	t.Helper()
	e, no := engine.New(c, programs)
	is(t, no, api.OK)
	r := run{e, fresh(c, programs), seated(c)}
	alike(t, r.e, r.m)
	return r
}

// copied tells another run with the same.
func (r run) copied() run {
	return run{r.e.Copy(), r.m.copied(), r.j.copied()}
}

// pick makes a pick, and holds all that there is to be seen against the model and before the judge.
func (r run) pick(t *testing.T, p api.Pick) (api.Row, bool) {
	t.Helper()
	enabled := r.e.Enabled(p.Actor)
	row, ok := r.e.Pick(p)
	must(t, ok == (p.Crash || enabled), "the pick %+v answers %v, and it was enabled: %v", p, ok, enabled)
	want, _ := r.m.pick(p)
	must(t, sameRow(row, want), "the pick %+v: %+v, want %+v", p, row, want)
	alike(t, r.e, r.m)
	if ok {
		r.j.row(t, row)
	}
	r.j.holds(t, r.e)
	return row, ok
}

// crash makes a crash that keeps these.
func (r run) crash(t *testing.T, keep ...int) api.Row {
	t.Helper()
	row, _ := r.pick(t, api.Pick{Crash: true, Keep: keep})
	return row
}

// recover picks recovery till a life begins: its rows.
func (r run) recover(t *testing.T) []api.Row {
	t.Helper()
	var rows []api.Row
	for !r.e.Running() {
		row, ok := r.pick(t, api.Pick{Actor: r.m.c.Clients + 2})
		must(t, ok, "recovery is not enabled")
		rows = append(rows, row)
	}
	return rows
}

// settle makes rounds of all actors' picks till nothing changes any more.
func (r run) settle(t *testing.T) {
	t.Helper()
	for changed := true; changed; {
		changed = false
		for n := range r.e.Actors() {
			if r.m.enabled(n) {
				r.pick(t, api.Pick{Actor: n})
				changed = true
				continue
			}
			// What this one changes the next one will find.
			_, ok := r.e.Pick(api.Pick{Actor: n})
			must(t, !ok, "the pick of %d, who is not enabled, answers true", n)
		}
	}
	alike(t, r.e, r.m)
}

// done holds that nobody is enabled, that all clients stand at the ends of their programs, and that nothing but records is left.
func (r run) done(t *testing.T) {
	t.Helper()
	for n, program := range r.m.programs {
		v, _ := r.e.Client(n)
		must(t, v.State == api.None && v.Place == len(program), "client %d is left in %+v", n, v)
	}
	_, reserved := r.e.Room()
	must(t, reserved == 0 && len(r.e.Waits()) == 0, "%d is reserved, and there are %d edges", reserved, len(r.e.Waits()))
}

// small tells configurations of small stores and logs, in which much waits.
func small() []api.Config {
	return []api.Config{
		config(1, 2, 1, 1, 1), config(1, 2, 1, 2, 3), config(2, 3, 2, 3, 2), config(2, 4, 2, 2, 3), config(3, 4, 2, 4, 4),
		config(4, 5, 3, 3, 2), config(4, 7, 3, 6, 5), config(3, 9, 3, 1, 8), config(6, 8, 5, 8, 3),
	}
}

// large tells configurations with the most of what there may be.
func large() []api.Config {
	return []api.Config{
		config(64, 64, 16, 64, 8), config(64, 17, 16, 9, 8), config(16, 64, 16, 40, 3), config(1, 64, 1, 64, 8), config(64, 2, 1, 1, 8),
	}
}

// named runs a test of each configuration.
func named(t *testing.T, l []api.Config, test func(t *testing.T, c api.Config, ch *chance)) {
	for i, c := range l {
		t.Run(fmt.Sprint(c), func(t *testing.T) {
			t.Parallel()
			ch := chance(i*1000003 + 77)
			test(t, c, &ch)
		})
	}
}

// TestRunsWithoutCrash goes through long runs, and on till nothing can change any more.
func TestRunsWithoutCrash(t *testing.T) {
	named(t, small(), func(t *testing.T, c api.Config, ch *chance) {
		for range 5 {
			r := started(t, c, ch.programs(c, 70))
			for range 300 {
				r.pick(t, ch.pick(r.e, 0))
			}
			r.settle(t)
			r.done(t)
		}
	})
}

// TestRunsWithCrashes goes through long runs with crashes, seldom and often, in recoveries too.
func TestRunsWithCrashes(t *testing.T) {
	named(t, small(), func(t *testing.T, c api.Config, ch *chance) {
		for _, often := range []int{3, 12, 40, 150} {
			r := started(t, c, ch.programs(c, 120))
			for range 500 {
				r.pick(t, ch.pick(r.e, often))
			}
			r.settle(t)
			r.done(t)
		}
	})
}

// TestLargeRuns goes through runs of the greatest configurations, with programs of all the operations that there may be.
func TestLargeRuns(t *testing.T) {
	named(t, large(), func(t *testing.T, c api.Config, ch *chance) {
		programs := ch.programs(c, 30)
		programs[0] = ch.program(c, api.MaxProgram)
		r := started(t, c, programs)
		for range 400 {
			r.pick(t, ch.pick(r.e, 150))
		}
		r.settle(t)
		r.done(t)
	})
}
