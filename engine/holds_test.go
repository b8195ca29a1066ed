package engine_test

import (
	"fmt"
	"slices"
	"testing"

	"wicket/api"
	"wicket/engine"
	"wicket/waits"
)

// keeps tells kinds of what a crash may keep: of few writes each choice, of more none, all, each alone, all but one, and odd numbers.
func (r run) keeps() [][]int {
	var all []int
	for i := range r.m.waiting {
		all = append(all, i)
	}
	var l [][]int
	for _, p := range r.crashes() {
		l = append(l, p.Keep)
	}
	l = append(l, []int{-1, len(all), 1 << 40}, append(slices.Repeat(all, 2), -7))
	if len(all) <= 3 {
		return l
	}
	for i := range all {
		l = append(l, []int{i}, slices.Delete(slices.Clone(all), i, i+1))
	}
	return l
}

// recovered tells the store behind a recovery that nothing breaks off.
func (r run) recovered(t *testing.T) []api.Value {
	t.Helper()
	r.recover(t)
	return r.e.Store()
}

// again breaks a recovery off at each of its steps, in each way, and holds that a new one, up to so many times, comes to the same store.
func (r run) again(t *testing.T, want []api.Value, times int) {
	t.Helper()
	for ; ; r.pick(t, api.Pick{Actor: r.m.c.Clients + 2}) {
		for _, keep := range r.keeps() {
			twin := r.copied()
			twin.crash(t, keep...)
			if times > 1 {
				twin.copied().again(t, want, times-1)
			}
			must(t, slices.Equal(twin.recovered(t), want), "a recovery that was done again has come to another store")
		}
		if r.e.Running() {
			return
		}
	}
}

// reopened holds that an engine opened on a disk comes to that store too, and goes on as the model says.
func (r run) reopened(t *testing.T, want []api.Value) {
	t.Helper()
	d := r.e.Disk()
	e, no := engine.Open(d, r.m.programs)
	is(t, no, api.OK)
	twin := run{e, opened(r.m.c, d.Image(), r.m.programs), r.j.copied()}
	twin.j.row(t, api.Row{Kind: api.RowCrashed})
	alike(t, twin.e, twin.m)
	must(t, slices.Equal(twin.recovered(t), want), "an engine that was opened has come to another store")
}

// TestCrashAtEachPick: W2: a crash behind each pick of a run, of each kind; recoveries that crash at each of their steps, of each kind; disks that are opened anew.
func TestCrashAtEachPick(t *testing.T) {
	for _, x := range []struct {
		c        api.Config
		times    int
		programs [][]api.Op
	}{
		{config(2, 4, 2, 2, 1), 2, [][]api.Op{{begin(0, 1), write(0, 1), write(1, 2), commit()}}},
		{config(2, 4, 2, 4, 1), 1, [][]api.Op{{begin(0, 1), write(0, 1), write(1, 2), commit(), begin(1), read(1), write(1, 3), commit()}}},
		{config(3, 6, 2, 2, 2), 1, [][]api.Op{
			{begin(0, 1), write(0, 1), write(1, 2), commit(), begin(2, 0), read(0), write(2, 3), commit(), begin(0), write(0, 6)},
			{begin(1), write(1, 4), abort(), begin(1, 2), read(1), write(1, 5), write(2, 5), commit(), begin(0), commit()},
		}},
		{config(1, 2, 1, 1, 3), 1, [][]api.Op{{begin(0), write(0, 1), commit()}, {begin(0), read(0), write(0, 2), commit()}, {begin(0), read(0), commit()}}},
	} {
		for _, order := range []string{"rising", "falling"} {
			t.Run(fmt.Sprint(x.c, order), func(t *testing.T) {
				t.Parallel()
				r := started(t, x.c, x.programs)
				for idle, at := 0, 0; idle < r.e.Actors(); at++ {
					n := at % r.e.Actors()
					if order == "falling" {
						n = r.e.Actors() - 1 - n
					}
					idle++
					if _, ok := r.pick(t, api.Pick{Actor: n}); ok {
						idle = 0
						r.crashEachWay(t, x.times)
					}
				}
				r.done(t)
			})
		}
	}
}

// crashEachWay crashes copies of a run in each way, and goes on with each.
func (r run) crashEachWay(t *testing.T, times int) {
	t.Helper()
	for _, keep := range r.keeps() {
		twin := r.copied()
		twin.crash(t, keep...)
		want := twin.copied().recovered(t)
		twin.reopened(t, want)
		twin.copied().again(t, want, times)
		twin.recover(t)
		twin.settle(t)
		twin.done(t)
	}
	alike(t, r.e, r.m)
}

// TestOpenedRuns opens engines on disks of long runs, waiting writes and all, and goes on with them.
func TestOpenedRuns(t *testing.T) {
	named(t, small(), func(t *testing.T, c api.Config, ch *chance) {
		r := started(t, c, ch.programs(c, 60))
		for range 8 {
			for range ch.below(80) {
				r.pick(t, ch.pick(r.e, 30))
			}
			d := r.e.Disk()
			programs := ch.programs(c, 60)
			e, no := engine.Open(d, programs)
			is(t, no, api.OK)
			r = run{e, opened(c, d.Image(), programs), r.j}
			r.j.row(t, api.Row{Kind: api.RowCrashed})
			r.j.holds(t, r.e)
			alike(t, r.e, r.m)
		}
		r.recover(t)
		r.settle(t)
		r.done(t)
	})
}

// TestCopies: 22.5: engines and their copies go on in their own ways, and none sees another.
func TestCopies(t *testing.T) {
	named(t, small(), func(t *testing.T, c api.Config, ch *chance) {
		runs := []run{started(t, c, ch.programs(c, 50)), started(t, c, ch.programs(c, 50))}
		for range 700 {
			i := ch.below(len(runs))
			runs[i].pick(t, ch.pick(runs[i].e, 30))
			other := runs[ch.below(len(runs))]
			alike(t, other.e, other.m)
			if ch.oneIn(15) {
				twin := runs[i].copied()
				alike(t, twin.e, twin.m)
				if len(runs) < 6 {
					runs = append(runs, twin)
				} else {
					runs[ch.below(len(runs))] = twin
				}
			}
		}
		for _, r := range runs {
			alike(t, r.e, r.m)
			r.settle(t)
			r.done(t)
		}
	})
}

// TestSamePicksAgain: 22.7: the same picks again, beside another engine that does something else, answer the same.
func TestSamePicksAgain(t *testing.T) {
	named(t, small(), func(t *testing.T, c api.Config, ch *chance) {
		programs := ch.programs(c, 60)
		e, other := made(t, c, programs...), made(t, c, ch.programs(c, 60)...)
		var picks []api.Pick
		var told []api.Row
		for range 500 {
			p := ch.pick(e, 40)
			row, _ := e.Pick(p)
			picks, told = append(picks, p), append(told, row)
			other.Pick(ch.pick(other, 10))
		}
		again := made(t, c, programs...)
		for i, p := range picks {
			row, ok := again.Pick(p)
			must(t, sameRow(row, told[i]) && ok == (row.Kind != 0), "pick %d answers %+v, and did %+v", i, row, told[i])
			other.Pick(ch.pick(other, 10))
		}
		must(t, slices.Equal(again.Disk().Image(), e.Disk().Image()) && slices.Equal(again.Store(), e.Store()), "the disks or the stores differ")
	})
}

// spacious tells programs with the same operations, each list with room to spare, in which there is something too.
func spacious(programs [][]api.Op) [][]api.Op {
	spare := api.Op{Kind: api.OpAbort, Set: []int{77}, Block: 77, Value: filled(77)}
	all := make([][]api.Op, 0, len(programs)+2)
	for _, program := range programs {
		l := make([]api.Op, 0, len(program)+2)
		for _, op := range program {
			op.Set = append(append(make([]int, 0, len(op.Set)+2), op.Set...), 77, 78)[:len(op.Set)]
			l = append(l, op)
		}
		all = append(all, append(l, spare, spare)[:len(program)])
	}
	return append(all, []api.Op{spare}, nil)[:len(programs)]
}

// samePrograms tells whether two lists of programs are alike, what stands in their spare room too.
func samePrograms(a, b [][]api.Op) bool {
	return slices.EqualFunc(a[:cap(a)], b[:cap(b)], func(p, q []api.Op) bool {
		return slices.EqualFunc(p[:cap(p)], q[:cap(q)], func(x, y api.Op) bool {
			return x.Kind == y.Kind && x.Block == y.Block && x.Value == y.Value && slices.Equal(x.Set[:cap(x.Set)], y.Set[:cap(y.Set)])
		})
	})
}

// scribble writes over a list, its spare room too, and grows it.
func scribble[T any](l []T, v T) {
	l = l[:cap(l)]
	for i := range l {
		l[i] = v
	}
	_ = append(l, v, v, v)
}

// scribblePrograms writes over all that programs are made of.
func scribblePrograms(programs [][]api.Op) {
	for _, program := range programs {
		for _, op := range program {
			scribble(op.Set, 0)
		}
		scribble(program, begin(0))
	}
	scribble(programs, []api.Op{commit()})
}

// TestWhatIsHandedIn: R3: programs and Keeps are not changed, spare room too, and the caller may do with them what he likes.
func TestWhatIsHandedIn(t *testing.T) {
	named(t, small(), func(t *testing.T, c api.Config, ch *chance) {
		for _, opens := range []bool{false, true} {
			programs := ch.programs(c, 60)
			given, kept := spacious(programs), spacious(programs)
			r := run{nil, fresh(c, programs), seated(c)}
			if opens {
				d := made(t, c, given...).Disk()
				r.e, _ = engine.Open(d, given)
				r.m = opened(c, d.Image(), programs)
			} else {
				r.e, _ = engine.New(c, given)
			}
			for range 150 {
				r.pickHandedIn(t, ch.pick(r.e, 20))
			}
			must(t, samePrograms(given, kept), "the programs have been changed")
			for range 150 {
				scribblePrograms(given)
				r.pickHandedIn(t, ch.pick(r.e, 20))
				given = spacious(programs)
			}
			r.settle(t)
			r.done(t)
		}
	})
}

// pickHandedIn makes a pick whose Keep has room to spare, and writes over it behind the pick.
func (r run) pickHandedIn(t *testing.T, p api.Pick) {
	t.Helper()
	given := append(slices.Clone(p.Keep), 0, 1, 2)
	kept := slices.Clone(given)
	p.Keep = given[:len(p.Keep)]
	r.pick(t, p)
	must(t, slices.Equal(given, kept), "the Keep has been changed")
	scribble(p.Keep, 0)
	alike(t, r.e, r.m)
}

// TestWhatIsHandedOut: R3: what is told may be written over and grown behind every pick, and no two lists of one answer share any room.
func TestWhatIsHandedOut(t *testing.T) {
	named(t, append(small(), large()...), func(t *testing.T, c api.Config, ch *chance) {
		r := started(t, c, ch.programs(c, 80))
		for range 400 - 4*c.Blocks {
			p := ch.pick(r.e, 40)
			row, _ := r.e.Pick(p)
			want, _ := r.m.pick(p)
			must(t, sameRow(row, want), "the row %+v, want %+v", row, want)
			scribble(row.Set, 0)
			for n := range c.Clients {
				v, _ := r.e.Client(n)
				scribble(v.Set, 0)
				must(t, slices.Equal(v.Locked, r.m.view(n).Locked), "a view's lists share their room")
				scribble(v.Locked, 0)
				scribble(v.Writes, api.Image{Value: filled(1)})
			}
			scribble(r.e.Store(), filled(1))
			scribble(r.e.Waits(), waits.Edge{From: 1, To: 1})
			r.spoilDisk()
			alike(t, r.e, r.m)
		}
	})
}

// spoilDisk does all that can be done to the disk that is told.
func (r run) spoilDisk() {
	d := r.e.Disk()
	for n := range d.Len() {
		d.Write(n, make([]byte, 64))
	}
	scribble(d.Waiting()[0].Data, 1)
	if len(r.m.waiting)%2 == 0 {
		d.Flush()
	}
	d.Crash()
}
