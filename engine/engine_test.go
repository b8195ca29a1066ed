package engine_test

import (
	"bytes"
	"fmt"
	"math"
	"slices"
	"testing"

	"wicket/api"
	"wicket/engine"
	"wicket/sector"
	"wicket/waits"
)

// mostPos is the greatest position and life that may be, and lastStart that from which an engine begins, written as the document has them.
const (
	mostPos   = uint64(1) << 62
	lastStart = mostPos - uint64(1)<<32
)

// lost tells configurations that may not be, by one part each.
func lost() []api.Config {
	return []api.Config{
		{},
		config(0, 4, 1, 4, 1), config(-1, 4, 1, 4, 1), config(65, 4, 2, 4, 1), config(math.MaxInt, 4, 2, 4, 1), config(math.MinInt, 4, 2, 4, 1),
		config(3, 1, 1, 1, 1), config(3, 0, 2, 4, 1), config(3, -1, 2, 4, 1), config(3, 65, 2, 4, 1), config(3, math.MaxInt, 2, 4, 1), config(3, math.MinInt, 2, 4, 1),
		config(3, 4, 0, 4, 1), config(3, 4, -1, 4, 1), config(3, 5, 4, 4, 1), config(4, 4, 4, 4, 1), config(64, 64, 17, 4, 1),
		config(3, 4, 2, 0, 1), config(3, 4, 2, 5, 1), config(3, 4, 2, -1, 1),
		config(3, 4, 2, 4, 0), config(3, 4, 2, 4, 9), config(3, 4, 2, 4, -1), config(3, 4, 2, 4, math.MinInt), config(3, 4, 2, 4, math.MaxInt),
	}
}

// example is the configuration of the chapter's examples.
func example() api.Config {
	return config(2, 4, 2, 4, 1)
}

// exampleProgram is the chapter's.
func exampleProgram() []api.Op {
	return []api.Op{begin(1), write(1, 7), commit()}
}

// exampleRows are those of the chapter's first example, all fields of them.
func exampleRows() []api.Row {
	return []api.Row{
		{Kind: api.RowBegun, Life: 1, Ticket: 1, Block: -1, Set: []int{1}},
		{Kind: api.RowEntered, Life: 1, Ticket: 1, Block: -1},
		{Kind: api.RowLocked, Life: 1, Ticket: 1, Block: 1},
		{Kind: api.RowWritten, Life: 1, Ticket: 1, Block: 1, Value: filled(7)},
		{Kind: api.RowRequested, Life: 1, Ticket: 1, Block: -1},
		{Kind: api.RowTaken, Life: 1, Actor: 1, Block: -1, Count: 1},
		{Kind: api.RowAppended, Life: 1, Actor: 1, Ticket: 1, Block: 1, Value: filled(7)},
		{Kind: api.RowAppended, Life: 1, Actor: 1, Ticket: 1, Block: -1, Position: 1, Count: 1},
		{Kind: api.RowFlushed, Life: 1, Actor: 1, Block: -1, Count: 2},
		{Kind: api.RowDone, Life: 1, Actor: 1, Ticket: 1, Block: -1, Position: 1, Count: 1},
	}
}

// made tells a new engine.
func made(t *testing.T, c api.Config, programs ...[]api.Op) *engine.Engine {
	t.Helper()
	e, no := engine.New(c, programs)
	must(t, e != nil && no == api.OK, "New(%v) answers %d", c, no)
	return e
}

// rows makes picks, or crashes of -1 that keep nothing, and holds each one's row against the next of the rows.
func rows(t *testing.T, e *engine.Engine, want ...api.Row) {
	t.Helper()
	for _, w := range want {
		row, ok := e.Pick(api.Pick{Actor: w.Actor, Crash: w.Kind == api.RowCrashed})
		must(t, ok && sameRow(row, w), "the row %+v, %v, want %+v", row, ok, w)
	}
}

// only holds that of all numbers just these are enabled.
func only(t *testing.T, e *engine.Engine, actors ...int) {
	t.Helper()
	for _, n := range []int{math.MinInt, math.MinInt + 1, -1, 0, 1, 2, 3, 4, 5, 6, 7, 8, 9, 10, 11, 12, 1 << 32, 1<<32 + 1, math.MaxInt - 1, math.MaxInt} {
		must(t, e.Enabled(n) == slices.Contains(actors, n), "Enabled(%d) = %v", n, e.Enabled(n))
	}
}

func TestExampleOne(t *testing.T) {
	e := made(t, example(), exampleProgram())
	must(t, e.Actors() == 4 && e.Running(), "%d actors, running %v", e.Actors(), e.Running())
	only(t, e, 0)
	rows(t, e, exampleRows()[:5]...)
	only(t, e, 1)
	rows(t, e, exampleRows()[5:]...)
	only(t, e)
	used, reserved := e.Room()
	must(t, used == 2 && reserved == 0, "Room = %d, %d", used, reserved)
	must(t, slices.Equal(e.Store(), []api.Value{{}, filled(7)}), "Store = %x", e.Store())
}

func TestExampleTwo(t *testing.T) {
	e := made(t, example(), exampleProgram())
	rows(t, e, exampleRows()[:7]...)
	rows(t, e, api.Row{Kind: api.RowCrashed, Life: 1, Actor: -1, Block: -1, Count: 1})
	only(t, e, 3)
	rows(t, e,
		api.Row{Kind: api.RowScanned, Life: 1, Actor: 3, Block: -1},
		api.Row{Kind: api.RowFlushed, Life: 1, Actor: 3, Block: -1},
		api.Row{Kind: api.RowMarked, Life: 1, Actor: 3, Block: -1, Position: 4},
		api.Row{Kind: api.RowLives, Life: 2, Actor: 3, Block: -1, Position: 4})
	only(t, e)
	must(t, slices.Equal(e.Store(), make([]api.Value, 2)), "Store = %x", e.Store())
	v, ok := e.Client(0)
	must(t, ok && sameView(v, engine.View{Place: 3}), "Client(0) = %+v", v)
}

func TestExampleThree(t *testing.T) {
	e := made(t, example(), exampleProgram())
	rows(t, e, exampleRows()[:9]...)
	rows(t, e,
		api.Row{Kind: api.RowCrashed, Life: 1, Actor: -1, Block: -1},
		api.Row{Kind: api.RowScanned, Life: 1, Actor: 3, Block: -1, Position: 2, Count: 1},
		api.Row{Kind: api.RowCarried, Life: 1, Actor: 3, Block: 1, Value: filled(7)},
		api.Row{Kind: api.RowFlushed, Life: 1, Actor: 3, Block: -1, Count: 1},
		api.Row{Kind: api.RowMarked, Life: 1, Actor: 3, Block: -1, Position: 6},
		api.Row{Kind: api.RowLives, Life: 2, Actor: 3, Block: -1, Position: 6})
	must(t, slices.Equal(e.Store(), []api.Value{{}, filled(7)}), "Store = %x", e.Store())
}

// TestNil: 22.3 to 22.5 of a nil engine.
func TestNil(t *testing.T) {
	var e *engine.Engine
	must(t, e.Actors() == 0 && !e.Running(), "Actors or Running")
	for _, n := range []int{math.MinInt, -1, 0, 1, 2, 3, math.MaxInt} {
		v, ok := e.Client(n)
		must(t, !e.Enabled(n) && !ok && sameView(v, engine.View{}), "Enabled or Client of %d", n)
		for _, crash := range []bool{false, true} {
			row, ok := e.Pick(api.Pick{Actor: n, Crash: crash, Keep: []int{0}})
			must(t, !ok && sameRow(row, api.Row{}), "Pick of %d: %+v, %v", n, row, ok)
		}
	}
	used, reserved := e.Room()
	must(t, used == 0 && reserved == 0, "Room")
	must(t, len(e.Waits()) == 0 && len(e.Store()) == 0 && e.Disk() == nil && e.Copy() == nil, "Waits, Store, Disk or Copy")
}

// wrongPrograms tells lists that are no programs of two clients.
func wrongPrograms() [][][]api.Op {
	wrong := [][][]api.Op{nil, {}, {nil}, {nil, nil, nil}, make([][]api.Op, 8), make([][]api.Op, 9)}
	long := slices.Repeat([]api.Op{commit()}, api.MaxProgram+1)
	wrong = append(wrong, [][]api.Op{long, nil}, [][]api.Op{nil, long}, [][]api.Op{long[:1], slices.Concat(long, long)})
	for _, kind := range []int{0, -1, 6, 7, math.MinInt, math.MaxInt} {
		bad := []api.Op{begin(0), {Kind: kind, Set: []int{0}}, commit()}
		wrong = append(wrong, [][]api.Op{bad, nil}, [][]api.Op{nil, bad[1:]}, [][]api.Op{{commit()}, bad[:2]})
	}
	return wrong
}

// TestNewRefuses: 22.1, its errors and their order.
func TestNewRefuses(t *testing.T) {
	for _, c := range lost() {
		for _, programs := range slices.Concat(wrongPrograms(), [][][]api.Op{make([][]api.Op, min(max(c.Clients, 0), 20))}) {
			e, no := engine.New(c, programs)
			must(t, e == nil && no == api.ErrConfig, "New(%v) of %d programs answers %d", c, len(programs), no)
		}
	}
	for i, programs := range wrongPrograms() {
		e, no := engine.New(config(3, 4, 2, 4, 2), programs)
		must(t, e == nil && no == api.ErrProgram, "New of wrong programs %d answers %d", i, no)
	}
	for _, c := range slices.Concat(small(), large()) {
		for n := range 11 {
			e, no := engine.New(c, make([][]api.Op, n))
			must(t, (no == api.OK) == (n == c.Clients) && (e == nil) == (no != api.OK), "New(%v) of %d programs answers %d", c, n, no)
		}
	}
}

// TestNew: 22.1, what it makes: a new disk, clients at place 0, life 1, everything idle.
func TestNew(t *testing.T) {
	odd := []api.Op{
		{Kind: api.OpBegin, Set: []int{math.MinInt, math.MaxInt, 3, 3, -1}, Block: math.MinInt, Value: filled(255)}, {Kind: api.OpBegin},
		{Kind: api.OpRead, Set: []int{9}, Block: math.MaxInt}, {Kind: api.OpWrite, Block: math.MinInt, Value: filled(1)},
		{Kind: api.OpCommit, Set: []int{0}, Block: -7, Value: filled(2)}, {Kind: api.OpAbort, Set: slices.Repeat([]int{64}, 5000), Block: 70},
	}
	for _, c := range slices.Concat(small(), large()) {
		programs := make([][]api.Op, c.Clients)
		programs[0] = slices.Repeat(odd, 43)[:api.MaxProgram]
		programs[c.Clients-1] = programs[0]
		r := started(t, c, programs)
		for n := range c.Clients {
			v, ok := r.e.Client(n)
			must(t, ok && sameView(v, engine.View{}), "Client(%d) = %+v", n, v)
		}
		must(t, len(r.e.Disk().Image()) == 64*(1+c.Blocks+c.LogCap) && len(r.e.Store()) == c.Blocks, "the disk or the store")
		for range 20 {
			r.pick(t, api.Pick{Actor: 0})
		}
	}
	e := made(t, config(3, 4, 2, 4, 2), nil, []api.Op{})
	only(t, e)
}

// fault is what is wrong with a disk, or with the programs beside it.
type fault int

const (
	noSuper fault = 1 << iota
	noLength
	highTail
	highLife
	noHome
	noProgram
	all
)

// spoilt tells a disk and programs with these faults.
func spoilt(c api.Config, f fault) (*sector.Disk, [][]api.Op) {
	tail, life := lastStart, lastStart
	if f&highTail != 0 {
		tail++
	}
	if f&highLife != 0 {
		life++
	}
	first := laidSuper(c, tail, life)
	if f&noSuper != 0 {
		first[60]++
	}
	image := slices.Clone(first[:])
	for b := range c.Blocks {
		home := laidHome(b, filled(byte(b)))
		if f&noHome != 0 && b == c.Blocks-1 {
			home[30]++
		}
		image = append(image, home[:]...)
	}
	image = append(image, make([]byte, 64*c.LogCap)...)
	if f&noLength != 0 {
		image = append(image, make([]byte, 64)...)
	}
	d, _ := sector.Load(image)
	if f&noProgram != 0 {
		return d, nil
	}
	return d, make([][]api.Op, c.Clients)
}

// TestOpenRefuses: 22.2, its errors and their order, each set of faults side by side.
func TestOpenRefuses(t *testing.T) {
	for _, programs := range [][][]api.Op{nil, {nil}, {nil, nil}} {
		e, no := engine.Open(nil, programs)
		must(t, e == nil && no == api.ErrHandle, "Open(nil) answers %d", no)
	}
	for _, c := range append(small(), large()...) {
		for f := range all {
			d, programs := spoilt(c, f)
			want := api.OK
			switch {
			case f&noSuper != 0:
				want = api.ErrSuper
			case f&noLength != 0:
				want = api.ErrInput
			case f&(highTail|highLife) != 0:
				want = api.ErrWrap
			case f&noHome != 0:
				want = api.ErrHome
			case f&noProgram != 0:
				want = api.ErrProgram
			}
			image := d.Image()
			e, no := engine.Open(d, programs)
			must(t, no == want && (e == nil) == (no != api.OK), "Open of faults %b answers %d, want %d", f, no, want)
			must(t, bytes.Equal(d.Image(), image) && len(d.Waiting()) == 0, "Open has changed the disk")
		}
	}
}

// disk tells one with these sectors, durable.
func disk(sectors ...block64) *sector.Disk {
	var image []byte
	for i := range sectors {
		image = append(image, sectors[i][:]...)
	}
	d, _ := sector.Load(image)
	return d
}

// opens holds what Open answers of a disk and as many empty programs.
func opens(t *testing.T, d *sector.Disk, programs int, want api.Errno) {
	t.Helper()
	e, no := engine.Open(d, make([][]api.Op, programs))
	must(t, no == want && (e == nil) == (no != api.OK), "Open answers %d, want %d", no, want)
}

// TestOpenLooksAtTheDisk: 22.2, what it asks of the superblock, the length and the homes, at their edges.
func TestOpenLooksAtTheDisk(t *testing.T) {
	c := config(2, 3, 2, 3, 2)
	whole := []block64{laidSuper(c, 5, 3), laidHome(0, filled(1)), laidHome(1, filled(2)), {}, {}, {}}
	with := func(n int, s block64) *sector.Disk {
		l := slices.Clone(whole)
		l[n] = s
		return disk(l...)
	}
	opens(t, disk(whole...), 2, api.OK)
	opens(t, disk(whole[:5]...), 2, api.ErrInput)
	opens(t, disk(whole[:1]...), 2, api.ErrInput)
	opens(t, disk(append(slices.Clone(whole), block64{})...), 2, api.ErrInput)
	opens(t, disk(slices.Concat(whole, make([]block64, 4090))...), 2, api.ErrInput)
	for n := range []int{1, 6, 4096} {
		blank, _ := sector.New(max(n, 1))
		opens(t, blank, 2, api.ErrSuper)
	}
	for i := range 64 {
		bad := whole[0]
		bad[i] ^= 1
		opens(t, with(0, bad), 2, api.ErrSuper)
	}
	// Superblocks of other configurations: of another length; of the same one, but a home is none there; and one that the disk may be of.
	opens(t, with(0, laidSuper(config(2, 4, 2, 3, 2), 5, 3)), 2, api.ErrInput)
	opens(t, with(0, laidSuper(config(1, 3, 1, 3, 2), 5, 3)), 2, api.ErrInput)
	opens(t, with(0, laidSuper(config(3, 2, 1, 2, 2), 5, 3)), 2, api.ErrHome)
	opens(t, with(0, laidSuper(config(1, 4, 1, 3, 2), 5, 3)), 2, api.OK)
	opens(t, with(0, laidSuper(config(2, 3, 2, 3, 3), 5, 3)), 2, api.ErrProgram)
	opens(t, with(0, laidSuper(config(2, 3, 2, 3, 3), 5, 3)), 3, api.OK)
	opens(t, with(0, laidSuper(config(3, 3, 3, 3, 2), 5, 3)), 2, api.ErrSuper)
	for _, n := range []uint64{1, lastStart - 1, lastStart} {
		opens(t, with(0, laidSuper(c, n, 1)), 2, api.OK)
		opens(t, with(0, laidSuper(c, 0, n)), 2, api.OK)
	}
	for _, n := range []uint64{lastStart + 1, mostPos - 1, mostPos} {
		opens(t, with(0, laidSuper(c, n, 1)), 2, api.ErrWrap)
		opens(t, with(0, laidSuper(c, 0, n)), 2, api.ErrWrap)
	}
	for _, n := range []uint64{mostPos + 1, math.MaxUint64} {
		opens(t, with(0, laidSuper(c, n, 1)), 2, api.ErrSuper)
		opens(t, with(0, laidSuper(c, 0, n)), 2, api.ErrSuper)
	}
	opens(t, with(0, laidSuper(c, 0, 0)), 2, api.ErrSuper)
	for b := range 2 {
		opens(t, with(1+b, block64{}), 2, api.ErrHome)
		opens(t, with(1+b, laidHome(1-b, filled(1))), 2, api.ErrHome)
		opens(t, with(1+b, whole[0]), 2, api.ErrHome)
	}
	// The log is not looked at.
	for s := range 3 {
		opens(t, with(3+s, block64{1, 2, 3}), 2, api.OK)
		opens(t, with(3+s, whole[0]), 2, api.OK)
	}
	for i, programs := range wrongPrograms() {
		e, no := engine.Open(disk(whole...), programs)
		must(t, e == nil && no == api.ErrProgram, "Open with wrong programs %d answers %d", i, no)
	}
}

// TestOpenLosesWhatWaits: 22.2: it is as a crash that keeps nothing; what waits neither mends nor spoils, and waits on.
func TestOpenLosesWhatWaits(t *testing.T) {
	c := config(2, 3, 2, 3, 2)
	durable := []block64{laidSuper(c, 5, 3), laidHome(0, filled(1)), laidHome(1, filled(2)), {}, {}, {}}
	waits := []block64{{}, {1}, laidHome(0, filled(3)), laidCommit(6, 0), {}, laidCommit(5, 0)}
	d := disk(durable...)
	for n := range waits {
		is(t, d.Write(n, waits[n][:]), api.OK)
	}
	e, no := engine.Open(d, make([][]api.Op, 2))
	is(t, no, api.OK)
	must(t, len(d.Waiting()) == 6 && len(e.Disk().Waiting()) == 0 && bytes.Equal(e.Disk().Image(), d.Image()), "what waited does not, or waits here too")
	rows(t, e,
		api.Row{Kind: api.RowScanned, Life: 3, Actor: 4, Block: -1, Position: 5},
		api.Row{Kind: api.RowFlushed, Life: 3, Actor: 4, Block: -1},
		api.Row{Kind: api.RowMarked, Life: 3, Actor: 4, Block: -1, Position: 8},
		api.Row{Kind: api.RowLives, Life: 4, Actor: 4, Block: -1, Position: 8})
	must(t, slices.Equal(e.Store(), []api.Value{filled(1), filled(2)}), "Store = %x", e.Store())
	// The other way round: what would make it one that can be opened only waits.
	d = disk(waits...)
	for n := range durable {
		is(t, d.Write(n, durable[n][:]), api.OK)
	}
	opens(t, d, 2, api.ErrSuper)
	d.Flush()
	opens(t, d, 2, api.OK)
}

// TestOpenTakesACopy: neither sees what is done to the other.
func TestOpenTakesACopy(t *testing.T) {
	c := config(2, 3, 2, 3, 1)
	program := []api.Op{begin(0, 1), write(0, 5), write(1, 6), commit()}
	d := disk(laidSuper(c, 5, 3), laidHome(0, filled(1)), laidHome(1, filled(2)), block64{}, block64{}, laidCommit(5, 0))
	image := d.Image()
	e, no := engine.Open(d, [][]api.Op{program})
	is(t, no, api.OK)
	r := run{e, opened(c, image, [][]api.Op{program}), nil}
	for n := 0; e.Enabled(0) || e.Enabled(1) || e.Enabled(2) || e.Enabled(3); n++ {
		alike(t, r.e, r.m)
		p := api.Pick{Actor: n % 4}
		row, ok := e.Pick(p)
		want, wanted := r.m.pick(p)
		must(t, ok == wanted && sameRow(row, want), "the row %+v, want %+v", row, want)
		must(t, bytes.Equal(d.Image(), image) == (n == 0) && len(d.Waiting()) == 0, "the engine works on the disk that was handed in")
		for s := range d.Len() {
			d.Write(s, bytes.Repeat([]byte{byte(n + 1)}, 64))
		}
		d.Flush()
		image = d.Image()
		image[0]++
	}
	must(t, slices.Equal(e.Store(), []api.Value{filled(5), filled(6)}), "Store = %x", e.Store())
}

// TestClientsThatThereAreNot: 22.5, other numbers than the clients', in a life and in a recovery.
func TestClientsThatThereAreNot(t *testing.T) {
	for _, c := range small() {
		r := started(t, c, make([][]api.Op, c.Clients))
		for range 2 {
			for _, n := range []int{math.MinInt, -1, c.Clients, c.Clients + 1, c.Clients + 2, 1 << 32, math.MaxInt} {
				v, ok := r.e.Client(n)
				must(t, !ok && sameView(v, engine.View{}), "Client(%d) = %+v, %v", n, v, ok)
			}
			r.crash(t)
		}
	}
}

// TestEachClientsRow: 22.4, all fields of every row of a client's steps.
func TestEachClientsRow(t *testing.T) {
	e := made(t, config(3, 5, 2, 5, 2),
		[]api.Op{
			read(1), {Kind: api.OpWrite, Block: -9, Value: filled(3)}, commit(), abort(), begin(), begin(3), begin(0, 1, 2), begin(0, 1, 2, -1),
			begin(2, 0, 2), read(0), write(2, 4), read(2), read(1), write(1, 5), {Kind: api.OpWrite, Block: math.MaxInt}, begin(), commit(),
		}, []api.Op{begin(1), abort(), begin(2)})
	no := func(block int, no api.Errno) api.Row {
		return api.Row{Kind: api.RowRefused, Life: 1, Block: block, Err: no}
	}
	rejected := func(no api.Errno) api.Row {
		return api.Row{Kind: api.RowRejected, Life: 1, Block: -1, Err: no}
	}
	rows(t, e, no(1, api.ErrState), no(-9, api.ErrState), no(-1, api.ErrState), no(-1, api.ErrState),
		rejected(api.ErrEmpty), rejected(api.ErrBlock), rejected(api.ErrMany), rejected(api.ErrBlock))
	one := func(kind, block int, v api.Value) api.Row {
		return api.Row{Kind: kind, Life: 1, Actor: 1, Ticket: 1, Block: block, Value: v}
	}
	begun := one(api.RowBegun, -1, api.Value{})
	begun.Set = []int{1}
	rows(t, e, begun, one(api.RowEntered, -1, api.Value{}), one(api.RowLocked, 1, api.Value{}), one(api.RowAborted, -1, api.Value{}))
	two := func(kind, block int, v api.Value) api.Row {
		return api.Row{Kind: kind, Life: 1, Ticket: 2, Block: block, Value: v}
	}
	refused := func(block int, no api.Errno) api.Row {
		return api.Row{Kind: api.RowRefused, Life: 1, Ticket: 2, Block: block, Err: no}
	}
	begun = two(api.RowBegun, -1, api.Value{})
	begun.Set = []int{0, 2}
	rows(t, e, begun, two(api.RowEntered, -1, api.Value{}), two(api.RowLocked, 0, api.Value{}), two(api.RowLocked, 2, api.Value{}),
		two(api.RowRead, 0, api.Value{}), two(api.RowWritten, 2, filled(4)), two(api.RowRead, 2, filled(4)),
		refused(1, api.ErrOutside), refused(1, api.ErrOutside), refused(math.MaxInt, api.ErrOutside), refused(-1, api.ErrOpen),
		two(api.RowRequested, -1, api.Value{}))
	three := func(kind, block int) api.Row {
		return api.Row{Kind: kind, Life: 1, Actor: 1, Ticket: 3, Block: block}
	}
	begun = three(api.RowBegun, -1)
	begun.Set = []int{2}
	rows(t, e, begun, three(api.RowEntered, -1))
	only(t, e, 2)
	rows(t, e,
		api.Row{Kind: api.RowTaken, Life: 1, Actor: 2, Block: -1, Count: 1},
		api.Row{Kind: api.RowAppended, Life: 1, Actor: 2, Ticket: 2, Block: 2, Value: filled(4)},
		api.Row{Kind: api.RowAppended, Life: 1, Actor: 2, Ticket: 2, Block: -1, Position: 1, Count: 1},
		api.Row{Kind: api.RowFlushed, Life: 1, Actor: 2, Block: -1, Count: 2},
		api.Row{Kind: api.RowDone, Life: 1, Actor: 2, Ticket: 2, Block: -1, Position: 1, Count: 1},
		three(api.RowLocked, 2), three(api.RowAborted, -1))
	only(t, e)
}

// TestEachCheckpointersRow: 22.4, all fields of its rows, behind a life that is not the first.
func TestEachCheckpointersRow(t *testing.T) {
	e := made(t, config(3, 4, 2, 1, 1), []api.Op{begin(0), begin(0, 2), write(2, 8), write(0, 9), commit()})
	e.Pick(api.Pick{})
	e.Pick(api.Pick{Crash: true})
	for !e.Running() {
		e.Pick(api.Pick{Actor: 3})
	}
	for e.Enabled(0) || e.Enabled(1) {
		e.Pick(api.Pick{Actor: 0})
		e.Pick(api.Pick{Actor: 1})
	}
	only(t, e, 2)
	rows(t, e,
		api.Row{Kind: api.RowChosen, Life: 2, Actor: 2, Block: -1, Position: 7, Count: 2},
		api.Row{Kind: api.RowCarried, Life: 2, Actor: 2, Block: 0, Value: filled(9)},
		api.Row{Kind: api.RowCarried, Life: 2, Actor: 2, Block: 2, Value: filled(8)},
		api.Row{Kind: api.RowFlushed, Life: 2, Actor: 2, Block: -1, Count: 2},
		api.Row{Kind: api.RowMarked, Life: 2, Actor: 2, Block: -1, Position: 7},
		api.Row{Kind: api.RowFreed, Life: 2, Actor: 2, Block: -1, Position: 7, Count: 3})
	only(t, e)
}

// TestLivesOfRows: 22.4, the life that rows tell ahead of RowScanned and behind it, behind a crash and behind Open, also of a life that was marked and never began.
func TestLivesOfRows(t *testing.T) {
	c := config(1, 2, 1, 2, 1)
	e, no := engine.Open(disk(laidSuper(c, 9, 7), laidHome(0, api.Value{}), block64{}, block64{}), [][]api.Op{{begin(0)}})
	is(t, no, api.OK)
	crashed := func(life uint64, count int) api.Row {
		return api.Row{Kind: api.RowCrashed, Life: life, Actor: -1, Block: -1, Count: count}
	}
	step := func(kind int, life, position uint64) api.Row {
		return api.Row{Kind: kind, Life: life, Actor: 3, Block: -1, Position: position}
	}
	rows(t, e, crashed(7, 0), crashed(7, 0), step(api.RowScanned, 7, 9), crashed(7, 0))
	rows(t, e, step(api.RowScanned, 7, 9), step(api.RowFlushed, 7, 0), step(api.RowMarked, 7, 11), crashed(7, 1))
	rows(t, e, step(api.RowScanned, 7, 9), step(api.RowFlushed, 7, 0), step(api.RowMarked, 7, 11))
	// Life 8 is marked, and kept, but never begins.
	row, ok := e.Pick(api.Pick{Crash: true, Keep: []int{0}, Actor: 3})
	must(t, ok && sameRow(row, crashed(7, 1)), "the row %+v", row)
	twin := e.Copy()
	rows(t, e, crashed(7, 0), step(api.RowScanned, 8, 11), crashed(8, 0), step(api.RowScanned, 8, 11), step(api.RowFlushed, 8, 0),
		step(api.RowMarked, 8, 13), step(api.RowLives, 9, 13), api.Row{Kind: api.RowBegun, Life: 9, Ticket: 1, Block: -1, Set: []int{0}}, crashed(9, 0))
	rows(t, twin, step(api.RowScanned, 8, 11))
}

// TestCrashedPlaces: DOC.md, 'A crash': a client whose state was not none goes on to its next Begin; one in none stays.
func TestCrashedPlaces(t *testing.T) {
	two := []api.Op{begin(0), read(0), write(0, 1), commit(), read(0), begin(0), commit()}
	for _, x := range []struct {
		program           []api.Op
		picks, ahead, end int // of the client, then its place ahead of the crash and behind it
	}{
		{two, 0, 0, 0}, {two, 1, 1, 5}, {two, 2, 1, 5}, {two, 3, 1, 5}, {two, 4, 2, 5}, {two, 5, 3, 5}, {two, 6, 4, 5}, {two, 7, 4, 5},
		{[]api.Op{begin(0)}, 3, 1, 1}, {[]api.Op{begin(0)}, 1, 1, 1}, {[]api.Op{begin(0)}, 4, 1, 1},
		{[]api.Op{read(0), commit(), begin(0)}, 1, 1, 1}, {[]api.Op{read(0), commit(), begin(0)}, 2, 2, 2},
		{[]api.Op{begin(9), read(0), begin(0)}, 1, 1, 1},
		{[]api.Op{begin(0), begin(0), read(0), begin(0)}, 3, 1, 1}, {[]api.Op{begin(0), begin(0), read(0), begin(0)}, 4, 2, 3},
		{[]api.Op{begin(0), begin(9), commit()}, 1, 1, 1}, {[]api.Op{begin(0), abort(), read(0), begin(0)}, 4, 2, 2},
		{[]api.Op{begin(0), abort(), read(0), begin(0)}, 3, 1, 3}, {nil, 1, 0, 0},
	} {
		r := started(t, config(1, 2, 1, 2, 1), [][]api.Op{x.program})
		for range x.picks {
			r.pick(t, api.Pick{})
		}
		v, _ := r.e.Client(0)
		must(t, v.Place == x.ahead, "behind %d picks of %v: the place %d, want %d", x.picks, x.program, v.Place, x.ahead)
		r.crash(t)
		for range 3 {
			v, _ = r.e.Client(0)
			must(t, v.Place == x.end && v.State == api.None, "behind the crash: %+v, want the place %d", v, x.end)
			r.recover(t)
		}
		r.crash(t)
		r.settle(t)
		r.done(t)
	}
}

// TestOnlyRecovery: 22.3 and 22.5: while a recovery is under way there is nobody else, no room, no edges, no store; and nothing of what was.
func TestOnlyRecovery(t *testing.T) {
	c := config(2, 4, 2, 1, 3)
	r := started(t, c, [][]api.Op{{begin(0, 1), write(0, 1), commit()}, {begin(0), commit()}, {begin(1), commit()}})
	for _, n := range []int{0, 1, 2, 0, 0, 0, 0, 0, 3, 3, 3, 3, 1} {
		r.pick(t, api.Pick{Actor: n})
	}
	used, reserved := r.e.Room()
	must(t, used == 2 && reserved == 2 && len(r.e.Waits()) == 2, "Room = %d, %d, Waits = %v", used, reserved, r.e.Waits())
	for _, crashes := range []int{1, 2, 3} {
		twin := r.copied()
		for range crashes {
			twin.crash(t)
			for n := range 5 {
				only(t, twin.e, 5)
				must(t, !twin.e.Running() && len(twin.e.Waits()) == 0 && len(twin.e.Store()) == 0, "running, or with edges or a store")
				used, reserved := twin.e.Room()
				must(t, used == 0 && reserved == 0, "Room = %d, %d", used, reserved)
				for n := range 3 {
					v, ok := twin.e.Client(n)
					must(t, ok && sameView(v, engine.View{Place: v.Place}), "Client(%d) = %+v", n, v)
				}
				for _, other := range []int{0, 1, 2, 3, 4, 6, -1} {
					_, ok := twin.pick(t, api.Pick{Actor: other})
					must(t, !ok, "the pick of %d answers true", other)
				}
				if n < 4 {
					twin.pick(t, api.Pick{Actor: 5})
				}
			}
			must(t, twin.e.Disk().Len() == 7, "the disk")
		}
		twin.recover(t)
		_, ok := twin.pick(t, api.Pick{Actor: 5})
		must(t, !ok && len(twin.e.Store()) == 2, "recovery steps on, or there is no store")
	}
}

// TestViews: 22.5, what a client's view tells in each state.
func TestViews(t *testing.T) {
	e := made(t, config(4, 6, 3, 6, 1), []api.Op{read(0), begin(3, 1, 3), write(3, 1), write(1, 2), write(3, 5), commit(), read(2)})
	view := func(state, place int, ticket uint64, set, locked []int, writes ...api.Image) {
		t.Helper()
		v, ok := e.Client(0)
		want := engine.View{State: state, Place: place, Ticket: ticket, Set: set, Locked: locked, Writes: writes}
		must(t, ok && sameView(v, want), "Client(0) = %+v, want %+v", v, want)
		e.Pick(api.Pick{})
	}
	set := []int{1, 3}
	image := func(b int, n byte) api.Image { return api.Image{Block: b, Value: filled(n)} }
	view(api.None, 0, 0, nil, nil)
	view(api.None, 1, 0, nil, nil)
	view(api.Waiting, 2, 1, set, nil)
	view(api.Locking, 2, 1, set, nil)
	view(api.Locking, 2, 1, set, set[:1])
	view(api.Active, 2, 1, set, set)
	view(api.Active, 3, 1, set, set, image(3, 1))
	view(api.Active, 4, 1, set, set, image(1, 2), image(3, 1))
	view(api.Active, 5, 1, set, set, image(1, 2), image(3, 5))
	for range 6 { // up to the acknowledgement nothing changes
		view(api.Committing, 6, 1, set, set, image(1, 2), image(3, 5))
		e.Pick(api.Pick{Actor: 1})
	}
	view(api.None, 6, 0, nil, nil)
	view(api.None, 7, 0, nil, nil)
}

// TestWaitsAndRoom: 22.5, with somebody in the line, somebody who does not fit, and queues of several.
func TestWaitsAndRoom(t *testing.T) {
	c := config(2, 4, 2, 4, 4)
	r := started(t, c, [][]api.Op{{begin(0, 1)}, {begin(1)}, {begin(0)}, {begin(0, 1)}})
	for _, n := range []int{1, 2, 1, 2, 0, 3} {
		r.pick(t, api.Pick{Actor: n})
	}
	used, reserved := r.e.Room()
	must(t, used == 0 && reserved == 4, "Room = %d, %d", used, reserved)
	must(t, slices.Equal(r.e.Waits(), []waits.Edge{{From: 4, To: 3, Why: waits.Line, Block: -1}, {From: 3, To: 1, Why: waits.Room, Block: -1}, {From: 3, To: 2, Why: waits.Room, Block: -1}}), "Waits = %v", r.e.Waits())
	only(t, r.e, 1, 2)
	r.settle(t)
	r.done(t)
}

// TestPicksOfNobody: 22.4 and 22.6: numbers of no actor, and those who are not enabled, change nothing, at every place of a run.
func TestPicksOfNobody(t *testing.T) {
	for _, c := range []api.Config{config(2, 4, 2, 3, 2), config(1, 2, 1, 1, 8)} {
		ch := chance(c.Clients)
		r := started(t, c, ch.programs(c, 20))
		for range 200 {
			for _, n := range []int{math.MinInt, math.MinInt + c.Clients + 2, -c.Clients, -1, c.Clients + 3, c.Clients + 4, 20, 1 << 32, 1<<32 + c.Clients, math.MaxInt - 1, math.MaxInt} {
				row, ok := r.pick(t, api.Pick{Actor: n, Keep: []int{0, 1, 2}})
				must(t, !ok && sameRow(row, api.Row{}), "the pick of %d: %+v, %v", n, row, ok)
			}
			for n := range r.e.Actors() {
				if !r.e.Enabled(n) {
					row, ok := r.pick(t, api.Pick{Actor: n})
					must(t, !ok && sameRow(row, api.Row{}), "the pick of %d: %+v, %v", n, row, ok)
				}
			}
			r.pick(t, ch.pick(r.e, 25))
		}
	}
}

// TestBegins: W5, over all short sets: Begin is rejected just if it must be, with the error that comes first, and takes a ticket just if it is not.
func TestBegins(t *testing.T) {
	for _, c := range []api.Config{config(1, 2, 1, 1, 1), config(3, 4, 2, 4, 1), config(4, 9, 2, 4, 1)} {
		sets := [][]int{nil}
		for i := 0; len(sets[i]) < 4; i++ {
			for b := -1; b <= c.Blocks; b++ {
				sets = append(sets, append(slices.Clone(sets[i]), b))
			}
		}
		for part := range slices.Chunk(sets, 100) {
			var program []api.Op
			for _, set := range part {
				program = append(program, begin(set...), abort())
			}
			e := made(t, c, program)
			ticket := uint64(0)
			for _, set := range part {
				begins(t, e, c, set, &ticket)
			}
		}
	}
}

// begins does a Begin and, if it is not rejected, its Abort; else the Abort that is refused.
func begins(t *testing.T, e *engine.Engine, c api.Config, set []int, ticket *uint64) {
	t.Helper()
	row, _ := e.Pick(api.Pick{})
	f, no := form(c, set)
	if no != api.OK {
		want := api.Row{Kind: api.RowRejected, Life: 1, Block: -1, Err: no}
		must(t, sameRow(row, want), "Begin of %v: %+v, want %+v", set, row, want)
		e.Pick(api.Pick{})
		return
	}
	*ticket++
	want := api.Row{Kind: api.RowBegun, Life: 1, Ticket: *ticket, Block: -1, Set: f}
	must(t, sameRow(row, want), "Begin of %v: %+v, want %+v", set, row, want)
	for row.Kind != api.RowAborted {
		row, _ = e.Pick(api.Pick{})
	}
}

// TestOutside: W5: an access outside the declared set is an error, and changes nothing but the place.
func TestOutside(t *testing.T) {
	c := config(4, 6, 2, 6, 1)
	for _, b := range []int{math.MinInt, -1, 0, 1, 2, 3, 4, 64, math.MaxInt} {
		for _, op := range []api.Op{read(b), write(b, 9)} {
			r := started(t, c, [][]api.Op{{begin(2, 1), write(1, 3), op, commit()}})
			for range 5 {
				r.pick(t, api.Pick{})
			}
			ahead, _ := r.e.Client(0)
			store, bytes := r.e.Store(), r.e.Disk().Image()
			row, ok := r.pick(t, api.Pick{})
			if b == 1 || b == 2 {
				must(t, ok && row.Kind != api.RowRefused && row.Err == api.OK, "%v: %+v", op, row)
				continue
			}
			must(t, ok && row.Kind == api.RowRefused && row.Err == api.ErrOutside && row.Block == b && row.Value == api.Value{}, "%v: %+v", op, row)
			ahead.Place++
			v, _ := r.e.Client(0)
			must(t, sameView(v, ahead) && slices.Equal(r.e.Store(), store) && slices.Equal(r.e.Disk().Image(), bytes), "%v has changed something", op)
			r.settle(t)
			must(t, slices.Equal(r.e.Store(), []api.Value{{}, filled(3), {}, {}}), "Store = %x", r.e.Store())
		}
	}
}

// String tells a fault's parts, for the tests' words.
func (f fault) String() string {
	return fmt.Sprintf("%06b", int(f))
}
