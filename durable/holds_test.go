package durable_test

import (
	"fmt"
	"slices"
	"testing"

	"wicket/api"
	"wicket/durable"
	"wicket/engine"
	"wicket/history"
	"wicket/home"
	"wicket/serial"
)

// isQuiet tells whether no recovery is under way, Used is 0 and the checkpointer is idle, as the rows of its last life tell.
func isQuiet(e *engine.Engine, of api.Config, rows []api.Row) bool {
	if used, _ := e.Room(); !e.Running() || used != 0 {
		return false
	}
	for _, r := range slices.Backward(rows) {
		switch {
		case r.Kind == api.RowLives || r.Kind == api.RowCrashed:
			return true
		case r.Actor == of.Clients+1:
			return r.Kind == api.RowFreed
		}
	}
	return true
}

// moment is what is asked of a run behind each of its picks.
type moment struct {
	of                 api.Config
	lived, quiet, busy int // how often Homes was asked behind RowLives, where all is quiet, and where it differs as something is not home yet
}

// look holds 25.5 and 25.6, and that the store of rows is the engine's wherever that has one.
func (m *moment) look(t *testing.T, e *engine.Engine, rows []api.Row) {
	t.Helper()
	f, no := durable.Judge(m.of, rows)
	must(t, no == api.OK && f == none(), "Judge answers %+v, %d, of %+v", f, no, rows)
	store, no := durable.Store(m.of, rows)
	must(t, no == api.OK && len(store) == m.of.Blocks, "Store answers %v, %d", store, no)
	if !e.Running() {
		return
	}
	must(t, slices.Equal(store, e.Store()), "Store answers %v, the engine %v, of %+v", store, e.Store(), rows)
	homes, no := home.All(e.Disk(), m.of)
	must(t, no == api.OK, "home.All answers %d", no)
	first, no := durable.Homes(m.of, rows, homes)
	must(t, no == api.OK, "Homes answers %d", no)
	lives := len(rows) > 0 && rows[len(rows)-1].Kind == api.RowLives
	switch quiet := isQuiet(e, m.of, rows); {
	case lives:
		must(t, first == -1, "behind RowLives block %d is not home: %v, the store is %v, of %+v", first, homes, store, rows)
		m.lived++
	case quiet:
		must(t, first == -1, "where all is quiet block %d is not home: %v, the store is %v, of %+v", first, homes, store, rows)
		m.quiet++
	case first >= 0:
		must(t, homes[first] != store[first] && slices.Equal(homes[:first], store[:first]), "Homes of %v answers %d, the store is %v", homes, first, store)
		m.busy++
	}
}

// TestRunsWithoutCrash: 25.5, 25.6 and 25.8, at every pick of long runs.
func TestRunsWithoutCrash(t *testing.T) {
	named(t, func(t *testing.T, of api.Config, ch *chance) {
		m := moment{of: of}
		for _, value := range []func() api.Value{uniques(), ch.few} {
			rows := ch.run(t, of, 500, 0, value, func(e *engine.Engine, rows []api.Row) {
				m.look(t, e, rows)
				store, _ := durable.Store(of, rows)
				mapped, no := serial.Map(rows, of.Blocks)
				must(t, no == api.OK && slices.Equal(store, mapped), "Store answers %v, serial.Map %v, %d", store, mapped, no)
			})
			held(t, of, rows)
			stepsHold(t, of, rows)
		}
		must(t, m.quiet > 0 && m.busy > 0, "%+v", m)
	})
}

// TestRunsWithCrashes: W2, at every pick of runs with lives and crashes, in recoveries too.
func TestRunsWithCrashes(t *testing.T) {
	named(t, func(t *testing.T, of api.Config, ch *chance) {
		m := moment{of: of}
		twice := 0
		for _, often := range []int{4, 15, 60} {
			rows := ch.run(t, of, 350, often, uniques(), func(e *engine.Engine, rows []api.Row) { m.look(t, e, rows) })
			held(t, of, rows)
			stepsHold(t, of, rows)
			for i, r := range rows {
				if i > 0 && r.Kind == api.RowCrashed && rows[i-1].Actor == healer(of) && rows[i-1].Kind != api.RowLives {
					twice++
				}
			}
		}
		must(t, m.lived > 0 && m.quiet > 0 && twice > 0, "%+v, %d crashes in recoveries", m, twice)
	})
}

// TestAllFatesComeInRuns: such runs come to each fate, and to all that is asked of rows.
func TestAllFatesComeInRuns(t *testing.T) {
	ch := chance(5)
	fate, kind := map[int]int{}, map[int]int{}
	for _, of := range configs() {
		rows := ch.run(t, of, 350, 15, uniques(), func(e *engine.Engine, rows []api.Row) {
			for _, x := range txsOf(rows) {
				fate[x.Fate]++
			}
		})
		for _, r := range rows {
			if r.Kind != api.RowCarried || r.Actor == healer(of) {
				kind[r.Kind]++
			}
		}
	}
	for _, f := range fates() {
		must(t, fate[f] > 50, "fate %d came %d times", f, fate[f])
	}
	for _, k := range []int{api.RowRead, api.RowWritten, api.RowAppended, api.RowDone, api.RowCarried, api.RowScanned, api.RowLives} {
		must(t, kind[k] > 10, "kind %d came %d times", k, kind[k])
	}
}

// keeps tells which numbers of waiting writes a crash may keep: all sets of up to three, of more some.
func keeps(n int) [][]int {
	if n > 3 {
		all := make([]int, n)
		for i := range all {
			all[i] = i
		}
		return [][]int{nil, all, all[:n/2], all[n/2:], {0, n - 1}}
	}
	var l [][]int
	for bits := range 1 << n {
		var keep []int
		for i := range n {
			if bits>>i&1 == 1 {
				keep = append(keep, i)
			}
		}
		l = append(l, keep)
	}
	return l
}

// fair tells the first enabled actor from some number on, going round; false, if there is none.
func fair(e *engine.Engine, from int) (int, bool) {
	for i := range e.Actors() {
		if actor := (from + i) % e.Actors(); e.Enabled(actor) {
			return actor, true
		}
	}
	return 0, false
}

// crasher goes through runs of small worlds with crashes behind each pick.
type crasher struct {
	moment
	t    *testing.T
	ends int // how many runs
}

// on goes on with the run of an engine as fair picks go, with so many crashes at most, each behind each of its picks.
func (c *crasher) on(e *engine.Engine, rows []api.Row, picks, crashes int) {
	for n := range picks {
		c.look(c.t, e, rows)
		if crashes > 0 {
			for _, keep := range keeps(len(e.Disk().Waiting())) {
				next := e.Copy()
				r, _ := next.Pick(api.Pick{Crash: true, Keep: keep})
				c.on(next, append(rows[:len(rows):len(rows)], r), 26, crashes-1)
			}
		}
		actor, ok := fair(e, n)
		if !ok {
			break
		}
		r, _ := e.Pick(api.Pick{Actor: actor})
		rows = append(rows[:len(rows):len(rows)], r)
	}
	c.look(c.t, e, rows)
	c.ends++
}

// TestCrashesEverywhere: W2 and 25.6, of small programs with a crash behind each pick, and another one behind each pick from then on, in recoveries too, and with all that a crash may keep.
func TestCrashesEverywhere(t *testing.T) {
	begin := func(set ...int) api.Op { return api.Op{Kind: api.OpBegin, Set: set} }
	commit := api.Op{Kind: api.OpCommit}
	for i, x := range []struct {
		of       api.Config
		crashes  int
		programs [][]api.Op
	}{
		{config(1, 2, 1, 1, 1), 3, [][]api.Op{{begin(0), write(0, a), commit, begin(0), read(0, zero), commit}}},
		{config(1, 2, 1, 1, 1), 2, [][]api.Op{{begin(0), write(0, a), commit, begin(0), read(0, zero), write(0, b), commit, begin(0), read(0, zero), commit}}},
		{config(2, 4, 2, 3, 1), 2, [][]api.Op{{begin(1), write(1, a), commit, begin(0, 1), read(1, zero), write(0, b), read(0, zero), commit, begin(1), write(1, c), commit}}},
		{config(2, 4, 2, 2, 2), 2, [][]api.Op{{begin(0, 1), write(0, a), write(1, b), commit, begin(1), read(1, zero)}, {begin(0), read(0, zero), write(0, c), commit}}},
		{config(2, 6, 1, 6, 2), 2, [][]api.Op{{begin(0), write(0, a), commit, begin(1), read(1, zero), write(1, a), commit}, {begin(1), write(1, b), commit, begin(0), read(0, zero), commit}}},
	} {
		t.Run(fmt.Sprint(i), func(t *testing.T) {
			t.Parallel()
			e, no := engine.New(x.of, x.programs)
			must(t, no == api.OK, "engine.New answers %d", no)
			c := &crasher{t: t, moment: moment{of: x.of}}
			c.on(e, nil, 40, x.crashes)
			t.Logf("%d runs, %+v", c.ends, c.moment)
			must(t, c.ends > 500 && c.lived > 500 && c.quiet > 500, "%d runs, %+v", c.ends, c.moment)
		})
	}
}

// changedReads holds 25.7 of reads; it tells of how many.
func changedReads(t *testing.T, of api.Config, rows []api.Row) int {
	t.Helper()
	n := 0
	for tx, x := range txsOf(rows) {
		for _, r := range x.Reads {
			spoilt := slices.Clone(rows)
			for _, v := range others(r.Value) {
				spoilt[r.Row].Value = v
				judging(t, of, spoilt, stale(r.Row, tx, r.Block))
				n++
			}
		}
	}
	return n
}

// changedReadings holds 25.7 of readings; it tells of how many.
func changedReadings(t *testing.T, of api.Config, rows []api.Row) int {
	t.Helper()
	n := 0
	txs := txsOf(rows)
	for i, r := range rows {
		if r.Kind != api.RowScanned {
			continue
		}
		var acks []uint64
		for _, x := range txs {
			if x.Done >= 0 && x.Done < i {
				acks = append(acks, x.Position)
			}
		}
		for k, p := range acks {
			if k > 3 && k < len(acks)-3 {
				continue
			}
			for _, end := range []uint64{p, p / 2, p - min(p, 1), 0} {
				spoilt := slices.Clone(rows)
				spoilt[i].Position = end
				first := slices.IndexFunc(txs, func(x history.Tx) bool { return x.Done >= 0 && x.Done < i && x.Position >= end })
				judging(t, of, spoilt, gone(i, first))
				n++
			}
		}
	}
	return n
}

// TestOneRowChanged: 25.7, of runs, with crashes too.
func TestOneRowChanged(t *testing.T) {
	named(t, func(t *testing.T, of api.Config, ch *chance) {
		reads, readings := 0, 0
		for _, often := range []int{0, 15, 60} {
			rows := ch.run(t, of, 350, often, ch.few, nil)
			reads += changedReads(t, of, rows)
			readings += changedReadings(t, of, rows)
		}
		must(t, reads > 50 && readings > 20, "%d reads, %d readings", reads, readings)
	})
}

// TestOneHomeChanged: 25.3, of runs: a home that a recovery carries is found, if it is another value; one that the checkpointer carries is not.
func TestOneHomeChanged(t *testing.T) {
	count := map[bool]int{}
	for i, of := range configs() {
		ch := chance(i*1000003 + 79)
		for _, often := range []int{10, 40} {
			rows := ch.run(t, of, 400, often, uniques(), nil)
			for i, r := range rows {
				if r.Kind != api.RowCarried {
					continue
				}
				want := none()
				if r.Actor == healer(of) {
					want = stale(i, -1, r.Block)
				}
				spoilt := slices.Clone(rows)
				for _, v := range others(r.Value) {
					spoilt[i].Value = v
					judging(t, of, spoilt, want)
					count[want.Good]++
				}
			}
		}
	}
	must(t, count[true] > 500 && count[false] > 500, "%v", count)
}

// TestOneWriteChanged: 25.3, of runs: where one RowWritten has another value, what was read and carried of it later is found.
func TestOneWriteChanged(t *testing.T) {
	ch := chance(43)
	n := map[int]int{}
	for _, of := range configs() {
		rows := ch.run(t, of, 400, 25, uniques(), nil)
		for i, r := range rows {
			if r.Kind != api.RowWritten {
				continue
			}
			for _, v := range []api.Value{zero, numbered(1 << 30)} {
				spoilt := slices.Clone(rows)
				spoilt[i].Value = v
				f := findingOf(of, spoilt)
				judging(t, of, spoilt, f)
				n[f.What]++
			}
		}
	}
	must(t, n[0] > 100 && n[durable.Stale] > 100, "%v", n)
}
