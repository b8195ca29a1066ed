package redo_test

import (
	"bytes"
	"hash/crc32"
	"math"
	"slices"
	"testing"

	"wicket/api"
	"wicket/home"
	"wicket/record"
	"wicket/redo"
	"wicket/sector"
	"wicket/super"
	"wicket/wal"
)

// most is the greatest position and life that may be, written as the document has it.
const most = uint64(1) << 62

// chance tells numbers that look like chance and are the same in each run.
type chance uint64

func (c *chance) next() uint64 {
	*c ^= *c << 13
	*c ^= *c >> 7
	*c ^= *c << 17
	return uint64(*c)
}

// below tells one of 0 to n - 1.
func (c *chance) below(n int) int {
	return int(c.next() % uint64(n))
}

// bytes tells n of them.
func (c *chance) bytes(n int) []byte {
	b := make([]byte, n)
	for i := range b {
		b[i] = byte(c.next())
	}
	return b
}

// some tells some of the numbers below n, doubles and others among them.
func (c *chance) some(n int) []int {
	var l []int
	for range c.below(2*n + 1) {
		l = append(l, c.below(n+2)-1)
	}
	return l
}

// filled tells a value whose bytes all are one.
func filled(n byte) api.Value {
	var v api.Value
	for i := range v {
		v[i] = n
	}
	return v
}

// image tells an image whose value's bytes all are one.
func image(block int, n byte) api.Image {
	return api.Image{Block: block, Value: filled(n)}
}

// is holds an error against another one.
func is(t *testing.T, got, want api.Errno) {
	t.Helper()
	if got != want {
		t.Fatalf("it answers %d, want %d", got, want)
	}
}

// same holds a row against another one, field by field.
func same(t *testing.T, got, want api.Row) {
	t.Helper()
	if got.Kind != want.Kind || got.Life != want.Life || got.Actor != want.Actor || got.Ticket != want.Ticket || got.Block != want.Block ||
		got.Value != want.Value || got.Position != want.Position || got.Count != want.Count || got.Err != want.Err || !slices.Equal(got.Set, want.Set) {
		t.Fatalf("the row %+v, want %+v", got, want)
	}
}

// number tells n's bytes, the lowest first.
func number(n uint64, size int) []byte {
	b := make([]byte, size)
	for i := range b {
		b[i] = byte(n >> (8 * i))
	}
	return b
}

// numeral tells the number of bytes, the lowest first.
func numeral(b []byte) uint64 {
	var n uint64
	for i, x := range b {
		n |= uint64(x) << (8 * i)
	}
	return n
}

// summed tells 64 bytes: those given, zeros up to byte 59, and their sum, reckoned by another hand than the layers'.
func summed(b ...byte) []byte {
	all := make([]byte, 60)
	copy(all, b)
	return append(all, number(uint64(crc32.ChecksumIEEE(all)), 4)...)
}

// mended tells 64 bytes with the sum that they should have.
func mended(b []byte) []byte {
	return summed(b[:60]...)
}

// laidImage tells the 64 bytes of an image's record.
func laidImage(p uint64, block int, v api.Value) []byte {
	return summed(slices.Concat([]byte{87, 1, 0, 0}, number(p, 8), number(uint64(block), 4), v[:])...)
}

// laidCommit tells the 64 bytes of a commit's record.
func laidCommit(p uint64, images int) []byte {
	return summed(slices.Concat([]byte{87, 2, 0, 0}, number(p, 8), number(uint64(images), 4))...)
}

// laidSuper tells the 64 bytes of a superblock.
func laidSuper(c api.Config, tail, life uint64) []byte {
	parts := []byte{byte(c.Blocks), byte(c.LogCap), byte(c.MaxRes), byte(c.High), byte(c.Clients), 0, 0, 0}
	return summed(slices.Concat([]byte("WICKET\x01\x00"), parts, number(tail, 8), number(life, 8))...)
}

// laidHome tells the 64 bytes of a block's home.
func laidHome(block int, v api.Value) []byte {
	return summed(slices.Concat([]byte("HOME\x01"), []byte{byte(block)}, make([]byte, 22), v[:])...)
}

// config tells a configuration of its parts, in their order.
func config(blocks, logCap, maxRes, high, clients int) api.Config {
	return api.Config{Blocks: blocks, LogCap: logCap, MaxRes: maxRes, High: high, Clients: clients}
}

// usual is a configuration with room for all that the tests below lay down.
func usual() api.Config {
	return config(5, 12, 3, 6, 2)
}

// whole tells configurations that may be: the fewest and the most blocks, slots and images among them.
func whole() []api.Config {
	return []api.Config{
		usual(),
		config(1, 2, 1, 1, 1), config(64, 2, 1, 2, 8), config(1, 64, 1, 64, 8), config(64, 64, 16, 64, 8),
		config(2, 3, 2, 1, 1), config(5, 6, 3, 6, 7), config(16, 17, 16, 17, 1), config(8, 7, 6, 3, 2), config(63, 63, 7, 9, 2),
	}
}

// lost tells configurations that may not be, by one part each.
func lost() []api.Config {
	return []api.Config{
		{},
		config(0, 4, 1, 4, 1), config(-1, 4, 1, 4, 1), config(65, 4, 2, 4, 1), config(math.MaxInt, 4, 2, 4, 1), config(math.MinInt, 4, 2, 4, 1),
		config(3, 1, 1, 1, 1), config(3, 0, 2, 4, 1), config(3, -1, 2, 4, 1), config(3, 65, 2, 4, 1), config(3, math.MaxInt, 2, 4, 1), config(3, math.MinInt, 2, 4, 1),
		config(3, 4, 0, 4, 1), config(3, 4, -1, 4, 1), config(3, 5, 4, 4, 1), config(4, 4, 4, 4, 1), config(64, 64, 17, 4, 1),
		config(3, 4, 2, 0, 1), config(3, 4, 2, 5, 1), config(3, 4, 2, -1, 1),
		config(3, 4, 2, 4, 0), config(3, 4, 2, 4, 9), config(3, 4, 2, 4, -1),
	}
}

// sectors tells how many a disk of a configuration has.
func sectors(c api.Config) int {
	return 1 + c.Blocks + c.LogCap
}

// sectorOf tells where a position's record stands, as the document has it.
func sectorOf(c api.Config, p uint64) int {
	return 1 + c.Blocks + int(p%uint64(c.LogCap))
}

// blank tells a disk of zeros.
func blank(t *testing.T, n int) *sector.Disk {
	t.Helper()
	d, e := sector.New(n)
	is(t, e, api.OK)
	return d
}

// wrote does a write that is taken.
func wrote(t *testing.T, d *sector.Disk, n int, b []byte) {
	t.Helper()
	is(t, d.Write(n, b), api.OK)
}

// disk tells one of a configuration whose superblock says that tail and life, durable; its homes and its log are zeros, all of them.
func disk(t *testing.T, c api.Config, tail, life uint64) *sector.Disk {
	t.Helper()
	d := blank(t, sectors(c))
	wrote(t, d, 0, laidSuper(c, tail, life))
	for b := range c.Blocks {
		wrote(t, d, 1+b, laidHome(b, api.Value{}))
	}
	d.Flush()
	return d
}

// laid writes transactions side by side from a position on, and tells the position behind them. The writes wait.
func laid(t *testing.T, d *sector.Disk, c api.Config, p uint64, txs ...[]api.Image) uint64 {
	t.Helper()
	for _, images := range txs {
		p = laidImages(t, d, c, p, images...)
		wrote(t, d, sectorOf(c, p), laidCommit(p, len(images)))
		p++
	}
	return p
}

// laidImages writes images side by side, without a commit.
func laidImages(t *testing.T, d *sector.Disk, c api.Config, p uint64, images ...api.Image) uint64 {
	t.Helper()
	for _, i := range images {
		wrote(t, d, sectorOf(c, p), laidImage(p, i.Block, i.Value))
		p++
	}
	return p
}

// newest tells a sector as a reader sees it: what waits is laid over what is durable.
func newest(d *sector.Disk, n int) []byte {
	b := d.Image()[64*n : 64*n+64]
	for _, w := range d.Waiting() {
		if w.Sector == n {
			b = w.Data
		}
	}
	return b
}

// tellsDisk holds all that a disk tells against another one.
func tellsDisk(t *testing.T, a, b *sector.Disk) {
	t.Helper()
	if a.Len() != b.Len() || !bytes.Equal(a.Image(), b.Image()) {
		t.Fatal("another disk")
	}
	if !slices.EqualFunc(a.Waiting(), b.Waiting(), func(a, b sector.Write) bool { return a.Sector == b.Sector && bytes.Equal(a.Data, b.Data) }) {
		t.Fatal("other writes wait")
	}
}

// act is a step that a recovery has still to do.
type act struct {
	row  api.Row
	at   int    // the sector that is written
	data []byte // nil: a flush
}

// model is a recovery by another hand: it looks at the bytes themselves, lays out all steps when it reads, and does them one by one.
type model struct {
	disk       *sector.Disk
	c          api.Config
	read       bool
	plan       []act
	tail, life uint64
}

func (m *model) on(d *sector.Disk) *model {
	twin := *m
	twin.disk = d
	twin.plan = slices.Clone(m.plan)
	return &twin
}

func (m *model) state() int {
	switch {
	case !m.read:
		return redo.Reading
	case len(m.plan) == 0:
		return redo.Over
	}
	switch m.plan[0].row.Kind {
	case api.RowCarried:
		return redo.Carrying
	case api.RowFlushed:
		return redo.Flushing
	case api.RowMarked:
		return redo.Marking
	}
	return redo.Ending
}

func (m *model) left() []api.Image {
	var l []api.Image
	for _, a := range m.plan {
		if a.row.Kind == api.RowCarried {
			l = append(l, api.Image{Block: a.row.Block, Value: a.row.Value})
		}
	}
	return l
}

func (m *model) result() (uint64, uint64, bool) {
	if m.state() != redo.Over {
		return 0, 0, false
	}
	return m.tail, m.life, true
}

func (m *model) step() (api.Row, api.Errno) {
	switch {
	case m.state() == redo.Over:
		return api.Row{}, api.ErrIdle
	case m.disk == nil:
		return api.Row{}, api.ErrHandle
	case !m.read:
		return m.lay()
	}
	a := m.plan[0]
	// A home has its place on a disk of the configuration's length alone; a flush, and the first sector, are on every disk.
	if a.row.Kind == api.RowCarried && m.disk.Len() != sectors(m.c) {
		return api.Row{}, api.ErrSector
	}
	if a.data != nil {
		m.disk.Write(a.at, a.data)
	} else {
		n, _ := m.disk.Flush()
		if a.row.Kind == api.RowFlushed {
			a.row.Count = n
		}
	}
	m.plan = m.plan[1:]
	return a.row, api.OK
}

// lay reads the disk, and lays out all steps that come behind.
func (m *model) lay() (api.Row, api.Errno) {
	if m.disk.Len() != sectors(m.c) {
		return api.Row{}, api.ErrSector
	}
	s, ok := superOf(newest(m.disk, 0))
	switch {
	case !ok:
		return api.Row{}, api.ErrSuper
	case s.Config != m.c:
		return api.Row{}, api.ErrConfig
	}
	found, end, values := m.found(s.Tail)
	if end > most-uint64(m.c.LogCap) || s.Life > most-1 {
		return api.Row{}, api.ErrWrap
	}
	m.read, m.tail, m.life = true, end+uint64(m.c.LogCap), s.Life+1
	for b := range m.c.Blocks {
		if v, ok := values[b]; ok {
			m.plan = append(m.plan, act{row: api.Row{Kind: api.RowCarried, Block: b, Value: v}, at: 1 + b, data: laidHome(b, v)})
		}
	}
	m.plan = append(m.plan,
		act{row: api.Row{Kind: api.RowFlushed, Block: -1}},
		act{row: api.Row{Kind: api.RowMarked, Block: -1, Position: m.tail}, data: laidSuper(m.c, m.tail, m.life)},
		act{row: api.Row{Kind: api.RowLives, Block: -1, Position: m.tail}},
	)
	return api.Row{Kind: api.RowScanned, Block: -1, Count: found, Position: end}, api.OK
}

// superOf tells the superblock of bytes, if they are one's.
func superOf(b []byte) (super.Super, bool) {
	s := super.Super{
		Config: config(int(b[8]), int(b[9]), int(b[10]), int(b[11]), int(b[12])),
		Tail:   numeral(b[16:24]),
		Life:   numeral(b[24:32]),
	}
	c := s.Config
	may := c.Blocks >= 1 && c.Blocks <= 64 && c.LogCap >= 2 && c.LogCap <= 64 &&
		c.MaxRes >= 1 && c.MaxRes <= 16 && c.MaxRes <= c.Blocks && c.MaxRes <= c.LogCap-1 &&
		c.High >= 1 && c.High <= c.LogCap && c.Clients >= 1 && c.Clients <= 8 &&
		s.Tail <= most && s.Life >= 1 && s.Life <= most
	return s, may && bytes.Equal(b, laidSuper(c, s.Tail, s.Life))
}

// found tells how many transactions stand from a tail on, where they end, and the last value of each of their blocks.
func (m *model) found(tail uint64) (int, uint64, map[int]api.Value) {
	n, end, values := 0, tail, map[int]api.Value{}
	var come []api.Image
	for p := tail; p < tail+uint64(m.c.LogCap) && p <= most; p++ {
		b := newest(m.disk, sectorOf(m.c, p))
		block, v := int(numeral(b[12:16])), api.Value(b[16:48])
		switch {
		case bytes.Equal(b, laidCommit(p, len(come))):
			n, end = n+1, p+1
			for _, i := range come {
				values[i.Block] = i.Value
			}
			come = nil
		case block < m.c.Blocks && len(come) < m.c.MaxRes && (len(come) == 0 || come[len(come)-1].Block < block) && bytes.Equal(b, laidImage(p, block, v)):
			come = append(come, api.Image{Block: block, Value: v})
		default:
			return n, end, values
		}
	}
	return n, end, values
}

// world is a recovery over a disk beside a model of it over a copy: each step is done with both.
type world struct {
	t   *testing.T
	r   *redo.Redo
	d   *sector.Disk
	m   *model
	own *sector.Disk // the model's
}

// over begins a recovery over a disk that has as many sectors as the configuration asks for.
func over(t *testing.T, d *sector.Disk, c api.Config) *world {
	t.Helper()
	r, e := redo.New(d, c)
	is(t, e, api.OK)
	own := d.Copy()
	w := &world{t: t, r: r, d: d, m: &model{disk: own, c: c}, own: own}
	w.tells()
	return w
}

// on tells the same recovery over another disk, which may be nil.
func (w *world) on(d *sector.Disk) *world {
	own := d.Copy()
	return &world{t: w.t, r: w.r.On(d), d: d, m: w.m.on(own), own: own}
}

// copy tells the same recovery over a copy of its disk.
func (w *world) copy() *world {
	return w.on(w.d.Copy())
}

// tells holds all that a world tells against its model.
func (w *world) tells() {
	w.t.Helper()
	if w.r.State() != w.m.state() {
		w.t.Fatalf("State %d, want %d", w.r.State(), w.m.state())
	}
	if l := w.r.Left(); !slices.Equal(l, w.m.left()) {
		w.t.Fatalf("in %d Left %v, want %v", w.r.State(), l, w.m.left())
	}
	tail, life, ok := w.r.Result()
	if wantTail, wantLife, wantOk := w.m.result(); tail != wantTail || life != wantLife || ok != wantOk {
		w.t.Fatalf("in %d Result %d, %d, %v, want %d, %d, %v", w.r.State(), tail, life, ok, wantTail, wantLife, wantOk)
	}
	tellsDisk(w.t, w.d, w.own)
}

// goes holds a change of the state against the chapter, and against the row that tells of it.
func (w *world) goes(from, to, kind int) {
	w.t.Helper()
	may := kind == 0 && from == to ||
		kind == api.RowScanned && from == redo.Reading && (to == redo.Carrying || to == redo.Flushing) ||
		kind == api.RowCarried && from == redo.Carrying && (to == redo.Carrying || to == redo.Flushing) ||
		kind == api.RowFlushed && from == redo.Flushing && to == redo.Marking ||
		kind == api.RowMarked && from == redo.Marking && to == redo.Ending ||
		kind == api.RowLives && from == redo.Ending && to == redo.Over
	if !may {
		w.t.Fatalf("from %d to %d by a row of %d", from, to, kind)
	}
}

// step does a step with both.
func (w *world) step() (api.Row, api.Errno) {
	w.t.Helper()
	from := w.r.State()
	row, e := w.r.Step()
	want, wantE := w.m.step()
	if e != wantE {
		w.t.Fatalf("Step in %d = %+v, %d, want %+v, %d", from, row, e, want, wantE)
	}
	same(w.t, row, want)
	w.goes(from, w.r.State(), row.Kind)
	w.tells()
	return row, e
}

// steps does so many steps, none of which is refused.
func (w *world) steps(n int) *world {
	w.t.Helper()
	for range n {
		_, e := w.step()
		is(w.t, e, api.OK)
	}
	return w
}

// rows does steps whose rows are these.
func (w *world) rows(want ...api.Row) *world {
	w.t.Helper()
	for _, x := range want {
		row, e := w.step()
		is(w.t, e, api.OK)
		same(w.t, row, x)
	}
	return w
}

// fails does a step that is refused, and then once more.
func (w *world) fails(want api.Errno) *world {
	w.t.Helper()
	for range 2 {
		was := w.d.Copy()
		_, e := w.step()
		is(w.t, e, want)
		if w.d != nil {
			tellsDisk(w.t, w.d, was)
		}
	}
	return w
}

// ends does all steps that are left, and tells how many.
func (w *world) ends() int {
	w.t.Helper()
	n := 0
	for ; w.r.State() != redo.Over; n++ {
		w.steps(1)
	}
	return n
}

// both does the same with each disk.
func (w *world) both(do func(d *sector.Disk)) {
	w.t.Helper()
	do(w.d)
	do(w.own)
	w.tells()
}

// homes tells what stands in the homes, waiting writes too.
func homes(t *testing.T, d *sector.Disk, c api.Config) []api.Value {
	t.Helper()
	values, e := home.All(d, c)
	is(t, e, api.OK)
	return values
}

// durableHomes tells the homes of a disk's durable bytes.
func durableHomes(t *testing.T, d *sector.Disk, c api.Config) []api.Value {
	t.Helper()
	x, e := sector.Load(d.Image())
	is(t, e, api.OK)
	return homes(t, x, c)
}

// threeBlocks tells a disk on which three transactions were found: they have written three blocks, one of these three times, and behind them stand two images without a commit. The log goes from 10 to 18, round the end of its slots.
func threeBlocks(t *testing.T) *sector.Disk {
	t.Helper()
	c := usual()
	d := disk(t, c, 10, 3)
	p := laid(t, d, c, 10, []api.Image{image(1, 11), image(4, 14)}, []api.Image{image(4, 24)}, []api.Image{image(2, 32), image(4, 34)})
	laidImages(t, d, c, p, image(0, 40), image(1, 41))
	d.Flush()
	return d
}

// allSteps is how many steps the recovery of threeBlocks has: it reads; three homes; the flush; the mark; the end.
const allSteps = 1 + 3 + 3

// stateOf tells the state of that recovery behind so many steps.
func stateOf(steps int) int {
	return []int{1, 2, 2, 2, 3, 4, 5, 6}[steps]
}

// behind tells that recovery behind so many steps.
func behind(t *testing.T, steps int) *world {
	t.Helper()
	return over(t, threeBlocks(t), usual()).steps(steps)
}

func TestP21_1_New(t *testing.T) {
	if redo.Reading != 1 || redo.Carrying != 2 || redo.Flushing != 3 || redo.Marking != 4 || redo.Ending != 5 || redo.Over != 6 {
		t.Error("other states")
	}
	r := chance(11)
	for _, c := range whole() {
		full, e := sector.Load(r.bytes(64 * sectors(c)))
		is(t, e, api.OK)
		fresh, e := home.New(c)
		is(t, e, api.OK)
		written := disk(t, c, 7, 2)
		laid(t, written, c, 7, []api.Image{image(0, 1)})
		// Whether a superblock stands there is not asked: nothing is read.
		for _, d := range []*sector.Disk{full, fresh, written, blank(t, sectors(c))} {
			was := d.Copy()
			x, e := redo.New(d, c)
			is(t, e, api.OK)
			tail, life, ok := x.Result()
			if x == nil || x.State() != redo.Reading || len(x.Left()) != 0 || tail != 0 || life != 0 || ok {
				t.Fatalf("New(%+v) is %+v", c, x)
			}
			tellsDisk(t, d, was)
		}
	}
}

func TestP21_1_Refuses(t *testing.T) {
	refused := func(d *sector.Disk, c api.Config, want api.Errno) {
		t.Helper()
		was := d.Copy()
		r, e := redo.New(d, c)
		is(t, e, want)
		if r != nil {
			t.Fatalf("New(%+v): a recovery beside the error %d", c, e)
		}
		if d != nil {
			tellsDisk(t, d, was)
		}
	}
	for _, c := range whole() {
		refused(nil, c, api.ErrHandle)
		n := sectors(c)
		for _, len := range []int{n - 1, n + 1, 1, 2, 200, 4096} {
			if len != n {
				refused(blank(t, len), c, api.ErrSector)
			}
		}
		// Lengths that would be right without one of the parts, or with it twice.
		for _, len := range []int{c.Blocks + c.LogCap, 1 + c.Blocks, 1 + c.LogCap, 1 + 2*c.Blocks + c.LogCap, 1 + c.Blocks + 2*c.LogCap} {
			refused(blank(t, len), c, api.ErrSector)
		}
	}
	for _, c := range lost() {
		refused(nil, c, api.ErrHandle)
		for _, n := range []int{1, 8, 9, 129, 4096, max(1, min(4096, sectors(c)))} {
			refused(blank(t, n), c, api.ErrConfig)
		}
	}
}

func TestP21_1_NothingIsReadAheadOfTheFirstStep(t *testing.T) {
	c := usual()
	w := over(t, blank(t, sectors(c)), c)
	w.fails(api.ErrSuper)
	w.both(func(d *sector.Disk) {
		wrote(t, d, 0, laidSuper(c, 20, 5))
		laid(t, d, c, 20, []api.Image{image(3, 9)})
	})
	w.rows(
		api.Row{Kind: api.RowScanned, Block: -1, Count: 1, Position: 22},
		api.Row{Kind: api.RowCarried, Block: 3, Value: filled(9)},
		api.Row{Kind: api.RowFlushed, Block: -1, Count: 4},
		api.Row{Kind: api.RowMarked, Block: -1, Position: 34},
		api.Row{Kind: api.RowLives, Block: -1, Position: 34},
	)
}

func TestP21_1_TwoOfOneDisk(t *testing.T) {
	// Each is its own; they meet on the disk alone.
	c := usual()
	d := threeBlocks(t)
	a, e := redo.New(d, c)
	is(t, e, api.OK)
	b, e := redo.New(d, c)
	is(t, e, api.OK)
	for range allSteps {
		_, e := a.Step()
		is(t, e, api.OK)
		if b.State() != redo.Reading || len(b.Left()) != 0 {
			t.Fatal("one sees the other's steps")
		}
	}
	row, e := b.Step()
	is(t, e, api.OK)
	same(t, row, api.Row{Kind: api.RowScanned, Block: -1, Position: 30})
}

func TestP21_2_EachRow(t *testing.T) {
	w := behind(t, 0)
	for n, want := range []api.Row{
		{Kind: api.RowScanned, Block: -1, Count: 3, Position: 18},
		{Kind: api.RowCarried, Block: 1, Value: filled(11)},
		{Kind: api.RowCarried, Block: 2, Value: filled(32)},
		{Kind: api.RowCarried, Block: 4, Value: filled(34)},
		{Kind: api.RowFlushed, Block: -1, Count: 3},
		{Kind: api.RowMarked, Block: -1, Position: 30},
		{Kind: api.RowLives, Block: -1, Position: 30},
	} {
		w.rows(want)
		if s := w.r.State(); s != stateOf(n+1) {
			t.Errorf("behind step %d its state is %d", n, s)
		}
	}
	w.fails(api.ErrIdle)
}

func TestP21_2_WhatEachStepChanges(t *testing.T) {
	w := behind(t, 0)
	was := w.d.Copy()
	for n := range allSteps + 1 {
		if got, want := len(w.d.Waiting()), []int{0, 0, 1, 2, 3, 0, 1, 0}[n]; got != want {
			t.Errorf("behind %d steps %d writes wait, want %d", n, got, want)
		}
		for i, b := range []int{1, 2, 4} {
			v, e := home.Load(w.d, usual(), b)
			is(t, e, api.OK)
			if carried := v != (api.Value{}); carried != (n >= i+2) {
				t.Errorf("behind %d steps block %d's home is %v", n, b, v)
			}
		}
		for _, b := range []int{0, 3} {
			v, e := home.Load(w.d, usual(), b)
			is(t, e, api.OK)
			if v != (api.Value{}) {
				t.Errorf("behind %d steps block %d's home is %v", n, b, v)
			}
		}
		super, _ := superOf(newest(w.d, 0))
		if marked := super.Tail == 30 && super.Life == 4; marked != (n >= 6) || super.Config != usual() {
			t.Errorf("behind %d steps the superblock says %+v", n, super)
		}
		for slot := range usual().LogCap {
			if n := 1 + usual().Blocks + slot; !bytes.Equal(newest(w.d, n), newest(was, n)) {
				t.Errorf("slot %d has been written", slot)
			}
		}
		if n < allSteps {
			w.steps(1)
		}
	}
}

func TestP21_2_NoSuperblock(t *testing.T) {
	for _, c := range whole() {
		d := blank(t, sectors(c))
		over(t, d, c).fails(api.ErrSuper)
		// All else is there: a log, and homes.
		d = disk(t, c, 6, 1)
		laid(t, d, c, 6, []api.Image{image(0, 1)})
		d.Flush()
		good := newest(d, 0)
		for at := range 64 {
			for _, by := range []byte{1, 0x80, 0xff} {
				b := slices.Clone(good)
				b[at] ^= by
				wrote(t, d, 0, b)
				over(t, d, c).fails(api.ErrSuper)
			}
		}
		for _, b := range [][]byte{
			make([]byte, 64), newest(d, 1), newest(d, sectorOf(c, 6)),
			laidSuper(c, 6, 0), laidSuper(c, most+1, 1), laidSuper(c, 6, most+1), laidSuper(c, math.MaxUint64, 1), laidSuper(c, 6, math.MaxUint64),
			laidSuper(config(0, 4, 1, 4, 1), 6, 1), laidSuper(config(3, 4, 2, 5, 1), 6, 1),
		} {
			wrote(t, d, 0, b)
			over(t, d, c).fails(api.ErrSuper)
		}
		wrote(t, d, 0, good)
		if n := over(t, d, c).ends(); n != 5 {
			t.Errorf("%d steps", n)
		}
	}
}

func TestP21_2_AnotherConfiguration(t *testing.T) {
	c := config(5, 12, 3, 6, 2)
	// By one part each; the disk's length is right for the first ones, and that of c for all.
	for _, x := range []api.Config{
		config(4, 13, 3, 6, 2), config(6, 11, 3, 6, 2),
		config(5, 12, 2, 6, 2), config(5, 12, 4, 6, 2), config(5, 12, 3, 5, 2), config(5, 12, 3, 7, 2), config(5, 12, 3, 6, 1), config(5, 12, 3, 6, 3),
		config(4, 12, 3, 6, 2), config(6, 12, 3, 6, 2), config(5, 11, 3, 6, 2), config(5, 13, 3, 6, 2),
	} {
		// A tail and a life of which ErrWrap would be told: the configuration goes first.
		for _, s := range [][2]uint64{{0, 1}, {10, 3}, {most, 1}, {0, most}, {most, most}} {
			d := threeBlocks(t)
			wrote(t, d, 0, laidSuper(x, s[0], s[1]))
			over(t, d, c).fails(api.ErrConfig)
			d.Flush()
			w := over(t, d, c).fails(api.ErrConfig)
			w.both(func(d *sector.Disk) { wrote(t, d, 0, laidSuper(c, 10, 3)) })
			if n := w.ends(); n != allSteps {
				t.Fatalf("behind the error it has %d steps", n)
			}
		}
	}
}

func TestP21_2_TheTailThatMayNotBe(t *testing.T) {
	for _, c := range whole() {
		last := most - uint64(c.LogCap) // the greatest end behind which a life begins
		for _, x := range []struct {
			tail uint64
			txs  int // each of them a commit alone
			want api.Errno
		}{
			{last - 1, 0, api.OK}, {last, 0, api.OK}, {last + 1, 0, api.ErrWrap}, {last + 2, 0, api.ErrWrap}, {most - 1, 0, api.ErrWrap}, {most, 0, api.ErrWrap},
			{last - 1, 1, api.OK}, {last - 2, 1, api.OK}, {last, 1, api.ErrWrap}, {last - 2, 2, api.OK}, {last - 1, 2, api.ErrWrap},
			{last - uint64(c.LogCap), c.LogCap, api.OK}, {last - uint64(c.LogCap) + 1, c.LogCap, api.ErrWrap}, {last, c.LogCap, api.ErrWrap}, {most, 1, api.ErrWrap},
		} {
			d := disk(t, c, x.tail, 1)
			end := laid(t, d, c, x.tail, make([][]api.Image, x.txs)...)
			d.Flush()
			w := over(t, d, c)
			if x.want != api.OK {
				w.fails(x.want)
				continue
			}
			w.rows(
				api.Row{Kind: api.RowScanned, Block: -1, Count: x.txs, Position: end},
				api.Row{Kind: api.RowFlushed, Block: -1},
				api.Row{Kind: api.RowMarked, Block: -1, Position: end + uint64(c.LogCap)},
				api.Row{Kind: api.RowLives, Block: -1, Position: end + uint64(c.LogCap)},
			)
		}
	}
}

func TestP21_2_ImagesBehindTheEndDoNotCountForTheTail(t *testing.T) {
	c := usual()
	last := most - uint64(c.LogCap)
	d := disk(t, c, last-1, 1)
	p := laid(t, d, c, last-1, nil)
	laidImages(t, d, c, p, image(0, 1), image(2, 1))
	over(t, d, c).rows(api.Row{Kind: api.RowScanned, Block: -1, Count: 1, Position: last})
}

func TestP21_2_TheLifeThatMayNotBe(t *testing.T) {
	for _, c := range whole() {
		for _, x := range []struct {
			tail, life uint64
			want       api.Errno
		}{
			{0, 1, api.OK}, {0, 2, api.OK}, {0, most - 2, api.OK}, {0, most - 1, api.OK}, {0, most, api.ErrWrap}, {100, most, api.ErrWrap},
			{most, most, api.ErrWrap}, {most, most - 1, api.ErrWrap}, {most - uint64(c.LogCap), most - 1, api.OK}, {most - uint64(c.LogCap), most, api.ErrWrap},
		} {
			w := over(t, disk(t, c, x.tail, x.life), c)
			if x.want != api.OK {
				w.fails(x.want)
				continue
			}
			w.ends()
			if tail, life, ok := w.r.Result(); tail != x.tail+uint64(c.LogCap) || life != x.life+1 || !ok {
				t.Errorf("behind %d, %d: %d, %d, %v", x.tail, x.life, tail, life, ok)
			}
			if s, ok := superOf(w.d.Image()[:64]); !ok || s.Life != x.life+1 || s.Tail != x.tail+uint64(c.LogCap) {
				t.Errorf("behind %d, %d the superblock says %+v", x.tail, x.life, s)
			}
		}
	}
}

func TestP21_2_GoesOnBehindErrWrap(t *testing.T) {
	c := usual()
	w := over(t, disk(t, c, most, most), c).fails(api.ErrWrap)
	w.both(func(d *sector.Disk) { wrote(t, d, 0, laidSuper(c, 4, most)) })
	w.fails(api.ErrWrap)
	w.both(func(d *sector.Disk) { wrote(t, d, 0, make([]byte, 64)) })
	w.fails(api.ErrSuper)
	w.both(func(d *sector.Disk) { wrote(t, d, 0, laidSuper(c, 4, 7)) })
	w.rows(
		api.Row{Kind: api.RowScanned, Block: -1, Position: 4},
		api.Row{Kind: api.RowFlushed, Block: -1, Count: 3},
		api.Row{Kind: api.RowMarked, Block: -1, Position: 16},
		api.Row{Kind: api.RowLives, Block: -1, Position: 16},
	).fails(api.ErrIdle)
}

func TestP21_2_EmptyLogs(t *testing.T) {
	for _, c := range whole() {
		for _, tail := range []uint64{0, 1, 63, 64, 1 << 40} {
			w := over(t, disk(t, c, tail, 9), c)
			w.rows(
				api.Row{Kind: api.RowScanned, Block: -1, Position: tail},
				api.Row{Kind: api.RowFlushed, Block: -1},
				api.Row{Kind: api.RowMarked, Block: -1, Position: tail + uint64(c.LogCap)},
				api.Row{Kind: api.RowLives, Block: -1, Position: tail + uint64(c.LogCap)},
			)
			// Images that no commit follows are nothing.
			d := disk(t, c, tail, 9)
			laidImages(t, d, c, tail, image(0, 5))
			over(t, d, c).rows(api.Row{Kind: api.RowScanned, Block: -1, Position: tail}, api.Row{Kind: api.RowFlushed, Block: -1, Count: 1})
		}
	}
}

func TestP21_2_OneTransaction(t *testing.T) {
	c := config(16, 17, 16, 17, 1)
	for n := range 17 {
		for _, tail := range []uint64{0, 5, 17, 33} {
			var images []api.Image
			for i := range n {
				images = append(images, image(16-n+i, byte(i+1)))
			}
			d := disk(t, c, tail, 1)
			laid(t, d, c, tail, images)
			d.Flush()
			w := over(t, d, c).rows(api.Row{Kind: api.RowScanned, Block: -1, Count: 1, Position: tail + uint64(n) + 1})
			for _, i := range images {
				w.rows(api.Row{Kind: api.RowCarried, Block: i.Block, Value: i.Value})
			}
			w.rows(
				api.Row{Kind: api.RowFlushed, Block: -1, Count: n},
				api.Row{Kind: api.RowMarked, Block: -1, Position: tail + uint64(n) + 18},
				api.Row{Kind: api.RowLives, Block: -1, Position: tail + uint64(n) + 18},
			)
		}
	}
}

func TestP21_2_TheNewestOfABlock(t *testing.T) {
	// One block over and over; and values that are those of an earlier one.
	c := config(3, 10, 2, 4, 1)
	d := disk(t, c, 95, 2)
	laid(t, d, c, 95, []api.Image{image(1, 9)}, []api.Image{image(1, 3)}, []api.Image{image(0, 8), image(1, 9)}, nil, []api.Image{image(1, 0)})
	d.Flush()
	wrote(t, d, 2, laidHome(1, filled(77)))
	over(t, d, c).rows(
		api.Row{Kind: api.RowScanned, Block: -1, Count: 5, Position: 105},
		api.Row{Kind: api.RowCarried, Block: 0, Value: filled(8)},
		api.Row{Kind: api.RowCarried, Block: 1},
		api.Row{Kind: api.RowFlushed, Block: -1, Count: 3},
	)
	if l := durableHomes(t, d, c); !slices.Equal(l, []api.Value{filled(8), {}, {}}) {
		t.Errorf("the homes are %v", l)
	}
}

func TestP21_2_TheValueIsWhole(t *testing.T) {
	var v, u api.Value
	for i := range v {
		v[i], u[i] = byte(i*7+1), byte(255-i)
	}
	c := usual()
	d := disk(t, c, 0, 1)
	laid(t, d, c, 0, []api.Image{{Block: 0, Value: v}, {Block: 3}, {Block: 4, Value: u}})
	w := over(t, d, c).steps(1)
	w.rows(api.Row{Kind: api.RowCarried, Value: v}, api.Row{Kind: api.RowCarried, Block: 3}, api.Row{Kind: api.RowCarried, Block: 4, Value: u})
	if l := homes(t, d, c); !slices.Equal(l, []api.Value{v, {}, {}, {}, u}) {
		t.Errorf("the homes are %v", l)
	}
}

func TestP21_2_EveryBlock(t *testing.T) {
	for _, c := range []api.Config{config(1, 2, 1, 1, 1), config(16, 17, 16, 1, 1), config(16, 32, 1, 1, 1), config(30, 64, 15, 4, 1), config(60, 64, 16, 4, 1)} {
		d := disk(t, c, 40, 1)
		var txs [][]api.Image
		// Laid down by falling numbers, in transactions that are as great as may be: carried by rising ones.
		for b := c.Blocks; b > 0; {
			var images []api.Image
			for n := min(b, c.MaxRes); n > 0; n-- {
				images = append(images, image(b-n, byte(b-n+1)))
			}
			txs = append(txs, images)
			b -= len(images)
		}
		end := laid(t, d, c, 40, txs...)
		d.Flush()
		w := over(t, d, c).rows(api.Row{Kind: api.RowScanned, Block: -1, Count: len(txs), Position: end})
		for b := range c.Blocks {
			w.rows(api.Row{Kind: api.RowCarried, Block: b, Value: filled(byte(b + 1))})
		}
		w.rows(api.Row{Kind: api.RowFlushed, Block: -1, Count: c.Blocks})
		for b, v := range durableHomes(t, d, c) {
			if v != filled(byte(b+1)) {
				t.Errorf("block %d's home is %v", b, v)
			}
		}
	}
}

func TestP21_2_MissingOrTurned(t *testing.T) {
	// What stands behind a record that is none is not found, whatever it says.
	c := usual()
	good := threeBlocks(t)
	commits := []uint64{12, 14, 17}
	r := chance(21)
	for p := uint64(10); p < 22; p++ {
		found, end := 0, uint64(10)
		for _, x := range commits {
			if x < p {
				found, end = found+1, x+1
			}
		}
		at := sectorOf(c, p)
		b := newest(good, at)
		wrong := [][]byte{make([]byte, 64), laidCommit(p-12, 0), laidImage(p+12, 0, filled(1)), r.bytes(64), laidHome(0, filled(1)), laidCommit(p, 16), laidImage(p, 5, filled(1)), laidImage(p, 63, filled(1))}
		if p < 20 {
			for range 6 {
				x := slices.Clone(b)
				x[r.below(64)] ^= 1 << r.below(8)
				wrong = append(wrong, x)
			}
		}
		for _, x := range wrong {
			d := good.Copy()
			wrote(t, d, at, x)
			w := over(t, d, c).rows(api.Row{Kind: api.RowScanned, Block: -1, Count: found, Position: end})
			w.ends()
		}
	}
}

func TestP21_2_RecordsThatDoNotFitTogether(t *testing.T) {
	c := usual()
	for i, x := range []struct {
		records [][]byte
		found   int
		end     uint64
		carried []api.Image
	}{
		{[][]byte{laidImage(5, 2, filled(1)), laidImage(6, 2, filled(2)), laidCommit(7, 2)}, 0, 5, nil},
		{[][]byte{laidImage(5, 2, filled(1)), laidImage(6, 1, filled(2)), laidCommit(7, 2)}, 0, 5, nil},
		{[][]byte{laidImage(5, 2, filled(1)), laidCommit(6, 0)}, 0, 5, nil},
		{[][]byte{laidImage(5, 2, filled(1)), laidCommit(6, 2)}, 0, 5, nil},
		{[][]byte{laidCommit(5, 1)}, 0, 5, nil},
		{[][]byte{laidImage(5, 0, filled(1)), laidImage(6, 1, filled(1)), laidImage(7, 2, filled(1)), laidImage(8, 3, filled(1)), laidCommit(9, 4)}, 0, 5, nil},
		{[][]byte{laidImage(5, 0, filled(1)), laidImage(6, 1, filled(1)), laidImage(7, 2, filled(1)), laidCommit(8, 3), laidCommit(9, 1)}, 1, 9, []api.Image{image(0, 1), image(1, 1), image(2, 1)}},
		{[][]byte{laidCommit(5, 0), laidImage(6, 4, filled(1)), laidCommit(7, 1), laidImage(8, 4, filled(2)), laidCommit(9, 2)}, 2, 8, []api.Image{image(4, 1)}},
		{[][]byte{laidCommit(5, 0), laidCommit(7, 0)}, 1, 6, nil},
		{[][]byte{laidCommit(4, 0), laidCommit(6, 0)}, 0, 5, nil},
	} {
		d := disk(t, c, 5, 1)
		for n, b := range x.records {
			wrote(t, d, sectorOf(c, 5+uint64(n)), b)
		}
		w := over(t, d, c).rows(api.Row{Kind: api.RowScanned, Block: -1, Count: x.found, Position: x.end})
		if l := w.r.Left(); !slices.Equal(l, x.carried) {
			t.Errorf("row %d: to be carried are %v", i, l)
		}
		w.ends()
	}
}

func TestP21_2_LogsThatHaveGoneRound(t *testing.T) {
	// A full log from each slot on, with the last lap's records in its slots where it is not full.
	c := config(4, 6, 2, 3, 1)
	for tail := uint64(50); tail < 63; tail++ {
		for full := range 4 {
			d := disk(t, c, tail, 4)
			laid(t, d, c, tail-6, []api.Image{image(3, 1)}, []api.Image{image(3, 2)}, []api.Image{image(3, 3)})
			var txs [][]api.Image
			for n := range full {
				txs = append(txs, []api.Image{image(n%2, byte(10+n))})
			}
			end := laid(t, d, c, tail, txs...)
			d.Flush()
			w := over(t, d, c).rows(api.Row{Kind: api.RowScanned, Block: -1, Count: full, Position: end})
			if n := w.ends(); n != min(full, 2)+3 {
				t.Errorf("%d steps behind the reading of %d", n, full)
			}
			if l := homes(t, d, c); l[3] != (api.Value{}) {
				t.Errorf("an earlier lap's value is home: %v", l)
			}
		}
	}
}

func TestP21_2_WaitingWritesAreReadAndFlushed(t *testing.T) {
	// What waits is read as if it were durable, and the flush counts it.
	c := usual()
	d := disk(t, c, 10, 3)
	wrote(t, d, 0, laidSuper(c, 20, 8))
	laid(t, d, c, 20, []api.Image{image(1, 5)})
	wrote(t, d, 5, laidHome(4, filled(50)))
	w := over(t, d, c).rows(
		api.Row{Kind: api.RowScanned, Block: -1, Count: 1, Position: 22},
		api.Row{Kind: api.RowCarried, Block: 1, Value: filled(5)},
		api.Row{Kind: api.RowFlushed, Block: -1, Count: 5},
		api.Row{Kind: api.RowMarked, Block: -1, Position: 34},
	)
	w.both(func(d *sector.Disk) { wrote(t, d, 1, laidHome(0, filled(60))) })
	w.rows(api.Row{Kind: api.RowLives, Block: -1, Position: 34})
	if l := durableHomes(t, d, c); !slices.Equal(l, []api.Value{filled(60), filled(5), {}, {}, filled(50)}) {
		t.Errorf("the homes are %v", l)
	}
	if _, life, _ := w.r.Result(); life != 9 {
		t.Errorf("the life is %d", life)
	}
}

func TestP21_2_ReadsOnce(t *testing.T) {
	// What becomes of the disk behind the reading does not change what is carried and marked.
	for n := 1; n <= allSteps; n++ {
		w := behind(t, n)
		left := w.r.Left()
		w.both(func(d *sector.Disk) {
			for at := range d.Len() {
				wrote(t, d, at, bytes.Repeat([]byte{byte(at + 1)}, 64))
			}
			wrote(t, d, 0, laidSuper(usual(), 400, 90))
			laid(t, d, usual(), 400, []api.Image{image(0, 99)})
		})
		if !slices.Equal(w.r.Left(), left) {
			t.Fatalf("behind %d steps something else is left", n)
		}
		w.steps(allSteps - n)
		if tail, life, ok := w.r.Result(); tail != 30 || life != 4 || !ok {
			t.Errorf("broken in behind %d steps: %d, %d, %v", n, tail, life, ok)
		}
		if s, ok := superOf(newest(w.d, 0)); n < 6 && (!ok || s.Tail != 30 || s.Life != 4) {
			t.Errorf("broken in behind %d steps the superblock says %+v", n, s)
		}
	}
}

func TestP21_2_AFlushOfNothing(t *testing.T) {
	// Somebody else has flushed ahead: it is a step all the same.
	w := behind(t, 4)
	w.both(func(d *sector.Disk) { d.Flush() })
	w.rows(api.Row{Kind: api.RowFlushed, Block: -1}, api.Row{Kind: api.RowMarked, Block: -1, Position: 30})
	w.both(func(d *sector.Disk) { d.Flush() })
	w.rows(api.Row{Kind: api.RowLives, Block: -1, Position: 30}).fails(api.ErrIdle)
}

func TestP21_2_HomesAreNotRead(t *testing.T) {
	// Bytes of no home in a home's sector: it is written, or left as it is.
	c := usual()
	r := chance(5)
	for range 20 {
		d := threeBlocks(t)
		for b := range c.Blocks {
			wrote(t, d, 1+b, r.bytes(64))
		}
		d.Flush()
		was := d.Copy()
		w := over(t, d, c)
		if n := w.ends(); n != allSteps {
			t.Fatalf("%d steps", n)
		}
		for b := range c.Blocks {
			carried := slices.Contains([]int{1, 2, 4}, b)
			if now := newest(d, 1+b); carried == bytes.Equal(now, newest(was, 1+b)) {
				t.Errorf("block %d's home is %v", b, now)
			}
		}
	}
}

func TestP21_3_StateLeftResult(t *testing.T) {
	l := []api.Image{image(1, 11), image(2, 32), image(4, 34)}
	w := behind(t, 0)
	for n := range allSteps + 1 {
		if s := w.r.State(); s != stateOf(n) {
			t.Fatalf("behind %d steps its state is %d", n, s)
		}
		want := []api.Image(nil)
		if n >= 1 && n <= 3 {
			want = l[n-1:]
		}
		if got := w.r.Left(); !slices.Equal(got, want) {
			t.Errorf("behind %d steps Left = %v, want %v", n, got, want)
		}
		tail, life, ok := w.r.Result()
		if n < allSteps {
			if tail != 0 || life != 0 || ok {
				t.Errorf("behind %d steps Result = %d, %d, %v", n, tail, life, ok)
			}
			w.steps(1)
		} else if tail != 30 || life != 4 || !ok {
			t.Errorf("when it is over Result = %d, %d, %v", tail, life, ok)
		}
	}
	w.fails(api.ErrIdle)
	if tail, life, ok := w.r.Result(); tail != 30 || life != 4 || !ok {
		t.Errorf("behind ErrIdle Result = %d, %d, %v", tail, life, ok)
	}
}

func TestNil(t *testing.T) {
	var r *redo.Redo
	d := threeBlocks(t)
	was := d.Copy()
	for range 2 {
		row, e := r.Step()
		is(t, e, api.ErrHandle)
		same(t, row, api.Row{})
		tail, life, ok := r.Result()
		if r.State() != 0 || len(r.Left()) != 0 || tail != 0 || life != 0 || ok || r.On(nil) != nil || r.On(d) != nil {
			t.Error("a nil one tells something")
		}
	}
	tellsDisk(t, d, was)
}

func TestP21_4_OverNoDisk(t *testing.T) {
	for n := range allSteps + 1 {
		w := behind(t, n)
		x := w.on(nil)
		x.tells()
		if n < allSteps {
			x.fails(api.ErrHandle)
		} else {
			x.fails(api.ErrIdle)
		}
		// From there on again over a disk: what was over none has lost nothing.
		y := x.on(w.d.Copy())
		y.tells()
		z := x.on(nil).on(w.d.Copy())
		for _, one := range []*world{y, z, w} {
			one.steps(allSteps - n)
			one.fails(api.ErrIdle)
			if tail, life, ok := one.r.Result(); tail != 30 || life != 4 || !ok {
				t.Errorf("behind %d steps over no disk: %d, %d, %v", n, tail, life, ok)
			}
		}
		x.tells()
		if x.r.State() != stateOf(n) {
			t.Errorf("the one over no disk has gone from %d to %d", stateOf(n), x.r.State())
		}
	}
}

func TestP21_4_OnInEachState(t *testing.T) {
	for n := range allSteps + 1 {
		w := behind(t, n)
		a := w.copy()
		b := a.copy()
		c := b.on(nil).on(b.d.Copy())
		all := []*world{w, a, b, c}
		quiet := func() {
			t.Helper()
			for _, x := range all {
				x.tells()
			}
		}
		quiet()
		for _, x := range all {
			for range allSteps - n {
				x.steps(1)
				quiet()
			}
			x.fails(api.ErrIdle)
			quiet()
			x.both(func(d *sector.Disk) { wrote(t, d, 1, laidHome(0, filled(1))) })
			quiet()
		}
	}
}

func TestP21_4_OtherDisksOfItsLength(t *testing.T) {
	c := usual()
	// While it is Reading, it reads the disk that it is over then.
	empty := behind(t, 0).on(disk(t, c, 70, 12))
	empty.rows(
		api.Row{Kind: api.RowScanned, Block: -1, Position: 70},
		api.Row{Kind: api.RowFlushed, Block: -1},
		api.Row{Kind: api.RowMarked, Block: -1, Position: 82},
		api.Row{Kind: api.RowLives, Block: -1, Position: 82},
	)
	behind(t, 0).on(blank(t, sectors(c))).fails(api.ErrSuper)
	other := c
	other.High = 1
	behind(t, 0).on(disk(t, other, 0, 1)).fails(api.ErrConfig)
	behind(t, 0).on(disk(t, c, most, 1)).fails(api.ErrWrap)
	// Behind that, what it has read goes on, whatever disk it is over.
	for n := 1; n <= allSteps; n++ {
		for _, d := range []*sector.Disk{disk(t, c, 70, 12), blank(t, sectors(c)), disk(t, other, most, most)} {
			w := behind(t, n)
			x := w.on(d)
			x.tells()
			x.steps(allSteps - n)
			if tail, life, ok := x.r.Result(); tail != 30 || life != 4 || !ok {
				t.Errorf("%d, %d, %v", tail, life, ok)
			}
			w.tells()
			w.steps(allSteps - n)
		}
	}
}

func TestP21_4_DisksOfOtherLengths(t *testing.T) {
	// The reading, and a home, ask for the configuration's length; a flush, and the superblock's sector, are on every disk.
	n := sectors(usual())
	for _, len := range []int{1, 2, 5, n - 1, n + 1, 4096} {
		for steps := range allSteps + 1 {
			w := behind(t, steps)
			x := w.on(blank(t, len))
			wrote(t, x.d, 0, bytes.Repeat([]byte{3}, 64))
			wrote(t, x.own, 0, bytes.Repeat([]byte{3}, 64))
			switch {
			case steps < 4:
				x.fails(api.ErrSector)
			case steps == allSteps:
				x.fails(api.ErrIdle)
			default:
				x.ends()
			}
			w.tells()
		}
	}
	// A superblock, whole and of that configuration, on a disk of another length: the length goes first.
	for _, b := range [][]byte{laidSuper(usual(), 0, 1), make([]byte, 64), laidSuper(config(1, 2, 1, 1, 1), 0, 1), laidSuper(usual(), most, most)} {
		d := blank(t, n+1)
		wrote(t, d, 0, b)
		behind(t, 0).on(d).fails(api.ErrSector)
	}
}

func TestP21_4_TwoOverOneDisk(t *testing.T) {
	// They meet on the disk, and nowhere else.
	w := behind(t, 2)
	r := w.r.On(w.d)
	_, e := r.Step()
	is(t, e, api.OK)
	if w.r.State() != redo.Carrying || len(w.r.Left()) != 2 || len(r.Left()) != 1 {
		t.Errorf("%v and %v are left", w.r.Left(), r.Left())
	}
	_, e = w.r.Step()
	is(t, e, api.OK)
	if n := len(w.d.Waiting()); n != 3 {
		t.Errorf("%d writes wait", n)
	}
}

// keeps gives all choices of n waiting writes.
func keeps(n int) [][]int {
	var all [][]int
	for kept := range 1 << n {
		var keep []int
		for i := range n {
			if kept>>i&1 != 0 {
				keep = append(keep, i)
			}
		}
		all = append(all, keep)
	}
	return all
}

// noLater tells whether no record that stands on a disk lies at a position from a tail on.
func noLater(t *testing.T, d *sector.Disk, c api.Config, tail uint64) {
	t.Helper()
	for slot := range c.LogCap {
		b, e := d.Read(1 + c.Blocks + slot)
		is(t, e, api.OK)
		if r, e := record.Decode(b); e == api.OK && r.Position >= tail {
			t.Fatalf("the record of %d stands on the disk, and the new Tail is %d", r.Position, tail)
		}
	}
}

// brokenOff does a recovery over a disk, broken off behind each of its steps with each choice that a crash may keep, so many times, and holds the homes at the end against those that it should come to. It tells how many recoveries came to their end.
func brokenOff(t *testing.T, d *sector.Disk, c api.Config, want []api.Value, times int) int {
	t.Helper()
	w := over(t, d.Copy(), c)
	ended := 0
	for {
		if times > 0 {
			for _, keep := range keeps(len(w.d.Waiting())) {
				x := w.d.Copy()
				x.Crash(keep...)
				ended += brokenOff(t, x, c, want, times-1)
			}
		}
		if w.r.State() == redo.Over {
			break
		}
		w.steps(1)
	}
	if got := durableHomes(t, w.d, c); !slices.Equal(got, want) {
		t.Fatalf("the homes are %v, want %v", got, want)
	}
	tail, life, _ := w.r.Result()
	if s, ok := superOf(w.d.Image()[:64]); !ok || s.Tail != tail || s.Life != life || s.Config != c {
		t.Fatalf("the superblock says %+v, want %d, %d", s, tail, life)
	}
	if n := len(w.d.Waiting()); n != 0 {
		t.Fatalf("%d writes wait when it is over", n)
	}
	noLater(t, w.d, c, tail)
	return ended + 1
}

func TestP21_6_BrokenOffAtEachStep(t *testing.T) {
	c := usual()
	want := []api.Value{{}, filled(11), filled(32), {}, filled(34)}
	// The homes held something else, or a part of what is carried: both count for nothing.
	for _, held := range [][]api.Image{nil, {image(1, 99), image(2, 98), image(4, 97)}, {image(1, 11), image(4, 34)}} {
		d := threeBlocks(t)
		for _, i := range held {
			wrote(t, d, 1+i.Block, laidHome(i.Block, i.Value))
		}
		d.Flush()
		if n := brokenOff(t, d, c, want, 2); n < 300 {
			t.Errorf("%d recoveries", n)
		}
	}
	// What none was found of holds what it held.
	d := threeBlocks(t)
	wrote(t, d, 1, laidHome(0, filled(88)))
	wrote(t, d, 4, laidHome(3, filled(87)))
	d.Flush()
	brokenOff(t, d, c, []api.Value{filled(88), filled(11), filled(32), filled(87), filled(34)}, 1)
}

func TestP21_6_BrokenOffThreeTimes(t *testing.T) {
	c := config(2, 4, 1, 2, 1)
	d := disk(t, c, 6, 1)
	laid(t, d, c, 6, []api.Image{image(1, 5)}, []api.Image{image(0, 6)})
	d.Flush()
	brokenOff(t, d, c, []api.Value{filled(6), filled(5)}, 3)
	empty := disk(t, c, 6, 1)
	laidImages(t, empty, c, 6, image(0, 1))
	empty.Flush()
	brokenOff(t, empty, c, make([]api.Value, 2), 4)
}

func TestP21_6_EachCrashOfARun(t *testing.T) {
	// A run of two transactions and a third without a commit; each choice of its records, and then each of the recovery's writes.
	c := config(3, 6, 2, 4, 1)
	d := disk(t, c, 9, 2)
	wrote(t, d, 3, laidHome(2, filled(70)))
	d.Flush()
	l, e := wal.Open(d, c, 9, 2)
	is(t, e, api.OK)
	l.Image(1, filled(1))
	l.Commit()
	l.Image(0, filled(2))
	l.Image(1, filled(3))
	l.Commit()
	l.Image(2, filled(4))
	found := map[int]int{}
	for _, keep := range keeps(6) {
		x := d.Copy()
		x.Crash(keep...)
		has := func(l ...int) bool {
			return !slices.ContainsFunc(l, func(n int) bool { return !slices.Contains(keep, n) })
		}
		want, n := []api.Value{{}, {}, filled(70)}, 0
		switch {
		case has(0, 1, 2, 3, 4):
			want, n = []api.Value{filled(2), filled(3), filled(70)}, 2
		case has(0, 1):
			want, n = []api.Value{{}, filled(1), filled(70)}, 1
		}
		found[n]++
		brokenOff(t, x, c, want, 1)
	}
	if found[0] != 48 || found[1] != 14 || found[2] != 2 {
		t.Errorf("found: %v", found)
	}
}

func TestP21_5_TheHomesAreFlushedAheadOfTheMark(t *testing.T) {
	w := behind(t, 0)
	want := []api.Value{{}, filled(11), filled(32), {}, filled(34)}
	for n := range allSteps + 1 {
		marks := 0
		for _, x := range w.d.Waiting() {
			if x.Sector == 0 {
				marks++
			}
		}
		s, ok := superOf(w.d.Image()[:64])
		if (marks == 1) != (n == 6) || marks > 1 || !ok || (s.Tail == 30) != (n == 7) {
			t.Errorf("behind %d steps %d superblocks wait, the durable one says %d", n, marks, s.Tail)
		}
		if n >= 5 && !slices.Equal(durableHomes(t, w.d, usual()), want) {
			t.Errorf("behind %d steps the durable homes are %v", n, durableHomes(t, w.d, usual()))
		}
		if n == 6 && len(w.d.Waiting()) != 1 {
			t.Errorf("%d writes wait beside the superblock", len(w.d.Waiting())-1)
		}
		if n < allSteps {
			w.steps(1)
		}
	}
}

// tx is a transaction that was committed in a life.
type tx struct {
	commit uint64
	images []api.Image
}

// store is a store of lives that crash, by a plain map: what was found is in it, and what was lost is not.
type store struct {
	t       *testing.T
	c       api.Config
	d       *sector.Disk
	log     *wal.Log
	known   []api.Value // behind all that was found, or acknowledged in this life
	live    []tx        // committed in this life, in their order
	acked   int         // so many of these are durable: their flush is behind them
	highest uint64      // behind all positions that were ever written
	last    byte        // of the values, so that each is another one for long
}

// values tells the map behind the first n transactions of this life.
func (s *store) values(n int) []api.Value {
	l := slices.Clone(s.known)
	for _, x := range s.live[:n] {
		for _, i := range x.images {
			l[i.Block] = i.Value
		}
	}
	return l
}

// write writes some records of a transaction, or all of it.
func (s *store) write(r *chance) {
	s.t.Helper()
	var images []api.Image
	most := r.below(s.c.MaxRes + 1)
	for b := range s.c.Blocks {
		if len(images) < most && r.below(2) == 0 {
			s.last++
			images = append(images, image(b, s.last))
		}
	}
	if s.log.Used()+len(images)+1 > s.c.LogCap {
		return
	}
	if s.log.End() < s.highest {
		s.t.Fatalf("the log goes on at %d, and %d has been written", s.log.End(), s.highest-1)
	}
	for _, i := range images {
		_, e := s.log.Image(i.Block, i.Value)
		is(s.t, e, api.OK)
	}
	p, e := s.log.Commit()
	is(s.t, e, api.OK)
	s.live = append(s.live, tx{p, images})
	s.highest = s.log.End()
}

// flush makes all that was committed durable.
func (s *store) flush() {
	s.log.Flush()
	s.acked = len(s.live)
}

// checkpoint carries what is durable home, and frees the log, or a part of these steps.
func (s *store) checkpoint(r *chance) {
	s.t.Helper()
	stop := r.below(12)
	target := s.log.Tail()
	for _, x := range s.live[:s.acked] {
		target = max(target, x.commit+1)
	}
	for b, v := range s.values(s.acked) {
		if stop--; stop == 0 {
			return
		}
		is(s.t, home.Save(s.d, s.c, b, v), api.OK)
	}
	s.flush()
	is(s.t, s.log.Mark(target), api.OK)
	if r.below(3) == 0 {
		return
	}
	_, e := s.log.Free()
	is(s.t, e, api.OK)
}

// recovers crashes the disk, does a recovery that may be broken off, and holds what it came to against the map. It tells how many of this life's were lost.
func (s *store) recovers(r *chance) int {
	s.t.Helper()
	s.d.Crash(r.some(len(s.d.Waiting()))...)
	w := over(s.t, s.d, s.c)
	row, e := w.step()
	is(s.t, e, api.OK)
	found := 0
	for found < len(s.live) && s.live[found].commit < row.Position {
		found++
	}
	if found < s.acked {
		s.t.Fatalf("%d are there, and %d were durable", found, s.acked)
	}
	for r.below(3) > 0 {
		for range r.below(8) {
			if w.r.State() != redo.Over {
				w.steps(1)
			}
		}
		s.d.Crash(r.some(len(s.d.Waiting()))...)
		w = over(s.t, s.d, s.c)
	}
	w.ends()
	got := durableHomes(s.t, s.d, s.c)
	if !slices.Equal(got, s.values(found)) {
		s.t.Fatalf("the homes are %v, want the map behind %d of %v", got, found, s.live)
	}
	lost := len(s.live) - found
	tail, life, _ := w.r.Result()
	noLater(s.t, s.d, s.c, tail)
	if tail < s.highest {
		s.t.Fatalf("the life begins at %d, and %d has been written", tail, s.highest-1)
	}
	s.known, s.live, s.acked = got, nil, 0
	s.log, e = wal.Open(s.d, s.c, tail, life)
	is(s.t, e, api.OK)
	return lost
}

func TestP21_5_LivesThatCrash(t *testing.T) {
	for n, c := range []api.Config{config(3, 6, 2, 4, 1), config(1, 2, 1, 1, 1), config(6, 9, 4, 5, 2), config(16, 30, 8, 20, 4)} {
		r := chance(900 + n)
		d, e := home.New(c)
		is(t, e, api.OK)
		log, e := wal.Open(d, c, 0, 1)
		is(t, e, api.OK)
		s := &store{t: t, c: c, d: d, log: log, known: make([]api.Value, c.Blocks)}
		lost := map[bool]int{}
		for range 400 {
			for range r.below(12) {
				switch r.below(5) {
				case 0:
					s.flush()
				case 1:
					s.checkpoint(&r)
				default:
					s.write(&r)
				}
			}
			lost[s.recovers(&r) > 0]++
		}
		if lost[true] < 15 || lost[false] < 15 || s.log.Tail() < 1000*uint64(min(c.LogCap, 4))/4 {
			t.Errorf("%+v: %v lives with lost ones, Tail %d", c, lost, s.log.Tail())
		}
	}
}

func TestP21_7_HowManySteps(t *testing.T) {
	// A transaction of LogCap - 1 images is the most that is carried.
	for logCap := 2; logCap <= 17; logCap++ {
		for n := range logCap {
			c := config(16, logCap, logCap-1, 1, 1)
			d := disk(t, c, 1000, 1)
			var images []api.Image
			for b := range n {
				images = append(images, image(b, byte(b+1)))
			}
			laid(t, d, c, 1000, images)
			d.Flush()
			w := over(t, d, c)
			if got := w.ends(); got != 4+n {
				t.Errorf("%d steps of %d blocks", got, n)
			}
			w.fails(api.ErrIdle)
		}
	}
	// Blocks that are written often are carried once.
	for _, c := range whole() {
		d := disk(t, c, 77, 1)
		var txs [][]api.Image
		for n := range c.LogCap / 2 {
			txs = append(txs, []api.Image{image(n%2%c.Blocks, byte(n))})
		}
		laid(t, d, c, 77, txs...)
		w := over(t, d, c)
		if got := w.ends(); got != 4+min(2, c.Blocks, c.LogCap/2) {
			t.Errorf("%+v: %d steps", c, got)
		}
	}
}

// recovery does a recovery over any disk that has the right length, to its end or its error, and tells the error.
func recovery(t *testing.T, d *sector.Disk, c api.Config) api.Errno {
	t.Helper()
	w := over(t, d, c)
	_, e := w.step()
	switch e {
	case api.OK:
		n := len(w.r.Left())
		if got := w.ends(); got != 3+n || n >= c.LogCap {
			t.Fatalf("%d steps behind the reading, %d blocks are carried", got, n)
		}
		w.fails(api.ErrIdle)
		if tail, life, ok := w.r.Result(); !ok || tail > most || life > most {
			t.Fatalf("%d, %d, %v", tail, life, ok)
		}
	case api.ErrSuper, api.ErrConfig, api.ErrWrap:
		w.fails(e)
	default:
		t.Fatalf("the error %d", e)
	}
	return e
}

// anySector tells bytes of some kind, well summed or not.
func anySector(r *chance, c api.Config, tail uint64) []byte {
	near := tail - uint64(c.LogCap) + uint64(r.below(3*c.LogCap))
	switch r.below(9) {
	case 0:
		return r.bytes(64)
	case 1:
		return make([]byte, 64)
	case 2:
		return mended(r.bytes(64))
	case 3:
		return laidHome(r.below(64), filled(byte(r.next())))
	case 4:
		return laidSuper(c, tail, 1+r.next()%most)
	case 5:
		b := laidImage(near, r.below(c.Blocks), filled(byte(r.next())))
		b[r.below(60)] ^= 1 << r.below(8)
		return mended(b)
	case 6:
		return laidImage(near, r.below(70), filled(byte(r.next())))
	default:
		return laidCommit(near, r.below(c.MaxRes+2))
	}
}

func TestP21_8_AnyDisk(t *testing.T) {
	r := chance(80)
	seen := map[api.Errno]int{}
	for n := range 6000 {
		c := whole()[n%len(whole())]
		tails := []uint64{0, 1, 90, 1 << 33, most - 2*uint64(c.LogCap), most - uint64(c.LogCap) - 1, most - uint64(c.LogCap), most - 1, most}
		tail := tails[r.below(len(tails))]
		d := disk(t, c, tail, []uint64{1, 2, 1 << 40, most - 1, most}[max(0, r.below(20)-15)])
		var txs [][]api.Image
		for left := r.below(c.LogCap + 1); left > 1; {
			var images []api.Image
			for b := r.below(c.Blocks); b < c.Blocks && len(images) < min(c.MaxRes, left-1); b += 1 + r.below(3) {
				images = append(images, image(b, byte(r.next())))
			}
			txs = append(txs, images)
			left -= len(images) + 1
		}
		laid(t, d, c, tail, txs...)
		d.Crash(r.some(len(d.Waiting()))...)
		for range r.below(6) {
			wrote(t, d, r.below(sectors(c)), anySector(&r, c, tail))
		}
		if r.below(8) == 0 {
			b := slices.Clone(newest(d, 0))
			b[8+r.below(5)] ^= 1 << r.below(3)
			b[r.below(64)] ^= byte(r.below(2))
			wrote(t, d, 0, mended(b))
		}
		if r.below(2) == 0 {
			d.Flush()
		}
		seen[recovery(t, d, c)]++
	}
	for _, e := range []api.Errno{api.OK, api.ErrSuper, api.ErrConfig, api.ErrWrap} {
		if seen[e] < 50 {
			t.Errorf("the answer %d came %d times", e, seen[e])
		}
	}
}

func TestP21_8_BytesTurnedHereAndThere(t *testing.T) {
	c := usual()
	good := threeBlocks(t).Image()
	r := chance(81)
	seen := map[api.Errno]int{}
	for n := range 64*sectors(c) + 3000 {
		b := slices.Clone(good)
		if n < len(b) {
			b[n] ^= 1 << r.below(8)
		} else {
			for range 1 + r.below(10) {
				b[r.below(len(b))] = byte(r.next())
			}
		}
		d, e := sector.Load(b)
		is(t, e, api.OK)
		e = recovery(t, d, c)
		seen[e]++
		if n < len(b) && (e == api.ErrSuper) != (n < 64) {
			t.Errorf("byte %d turned: %d", n, e)
		}
	}
	if seen[api.OK] < 1000 || seen[api.ErrSuper] < 64 {
		t.Errorf("the answers: %v", seen)
	}
}

// spoil writes over all that a recovery hands out, and into the room behind it, and lets it grow.
func (w *world) spoil() {
	w.t.Helper()
	junk := image(3, 255)
	for n := range 3 {
		l := w.r.Left()
		for range n {
			l = append(l, junk)
		}
		l = l[:cap(l)]
		for i := range l {
			l[i] = junk
		}
		w.tells()
	}
}

// anyTurn does something with a world: a step, or what others may do to its disk.
func (w *world) anyTurn(r *chance) *world {
	w.t.Helper()
	c := w.m.c
	switch r.below(12) {
	case 0:
		at, b := r.below(sectors(c)), anySector(r, c, w.m.tail)
		w.both(func(d *sector.Disk) {
			x := slices.Clone(b)
			d.Write(at, x)
			clear(x)
		})
	case 1:
		w.both(func(d *sector.Disk) { d.Flush() })
	case 2:
		keep := r.some(len(w.d.Waiting()))
		w.both(func(d *sector.Disk) { d.Crash(keep...) })
	case 3:
		// A new one over what is left, on which a life may have written.
		w.both(func(d *sector.Disk) {
			if s, ok := superOf(newest(d, 0)); !ok || s.Config != c || s.Tail > most/2 || s.Life > most/2 {
				d.Write(0, laidSuper(c, 5, 1))
			}
		})
		s, _ := superOf(newest(w.d, 0))
		p := s.Tail
		for range r.below(4) {
			if p+2 > s.Tail+uint64(c.LogCap) {
				break
			}
			p = laid(w.t, w.d, c, p, []api.Image{image(r.below(c.Blocks), byte(r.next()))})
		}
		return over(w.t, w.d, c)
	default:
		row, _ := w.step()
		_ = append(row.Set, 3, 2, 1)
	}
	w.spoil()
	return w
}

func TestR3_LongRuns(t *testing.T) {
	for n, c := range whole() {
		r := chance(3000 + n)
		w := over(t, disk(t, c, 3, 1), c)
		seen := map[int]int{}
		for range 3000 {
			w = w.anyTurn(&r)
			seen[w.r.State()]++
		}
		for state := redo.Reading; state <= redo.Over; state++ {
			if seen[state] < 20 {
				t.Errorf("%+v: %d times in %d", c, seen[state], state)
			}
		}
	}
}

func TestR3_LongRunsWithOthers(t *testing.T) {
	// Some that On made of one another: none sees what is done to the others.
	r := chance(33)
	c := usual()
	worlds := []*world{behind(t, 0)}
	for range 3000 {
		at := r.below(len(worlds))
		worlds[at] = worlds[at].anyTurn(&r)
		if r.below(6) == 0 {
			twin := worlds[at].copy()
			if r.below(3) == 0 {
				twin = worlds[at].on(worlds[r.below(len(worlds))].d.Copy())
			}
			if len(worlds) < 5 {
				worlds = append(worlds, twin)
			} else {
				worlds[r.below(5)] = twin
			}
		}
		if r.below(40) == 0 {
			worlds[r.below(len(worlds))] = over(t, threeBlocks(t), c)
		}
		for _, x := range worlds {
			x.tells()
		}
	}
}

func TestR3_WhatIsHandedInIsTheCallers(t *testing.T) {
	// The configuration is a value; the disk is worked on, and what the caller does to it changes nothing that a recovery tells of itself.
	for n := range allSteps + 1 {
		d, c := threeBlocks(t), usual()
		r, e := redo.New(d, c)
		is(t, e, api.OK)
		c = api.Config{}
		for range n {
			_, e := r.Step()
			is(t, e, api.OK)
		}
		state, left := r.State(), r.Left()
		tail, life, ok := r.Result()
		for at := range d.Len() {
			wrote(t, d, at, make([]byte, 64))
		}
		d.Flush()
		gotTail, gotLife, gotOk := r.Result()
		if r.State() != state || !slices.Equal(r.Left(), left) || gotTail != tail || gotLife != life || gotOk != ok || c != (api.Config{}) {
			t.Errorf("behind %d steps it tells something else", n)
		}
	}
}

func TestR5_TwoAlike(t *testing.T) {
	a, b := behind(t, 0), behind(t, 0)
	for range allSteps + 2 {
		rowA, eA := a.step()
		rowB, eB := b.step()
		same(t, rowA, rowB)
		is(t, eA, eB)
		tellsDisk(t, a.d, b.d)
	}
}

func TestR6_AskingChangesNothing(t *testing.T) {
	for n := range allSteps + 1 {
		w := behind(t, n)
		was := w.d.Copy()
		for range 3 {
			w.r.State()
			w.r.Left()
			w.r.Result()
			w.r.On(nil)
			w.r.On(w.d)
			w.r.On(blank(t, 3)).Step()
			w.tells()
			tellsDisk(t, w.d, was)
		}
		w.steps(allSteps - n)
	}
}

func TestExample1(t *testing.T) {
	c := config(2, 4, 2, 3, 1)
	d, e := home.New(c)
	is(t, e, api.OK)
	w := over(t, d, c).rows(
		api.Row{Kind: api.RowScanned, Block: -1},
		api.Row{Kind: api.RowFlushed, Block: -1},
		api.Row{Kind: api.RowMarked, Block: -1, Position: 4},
		api.Row{Kind: api.RowLives, Block: -1, Position: 4},
	)
	if tail, life, ok := w.r.Result(); tail != 4 || life != 2 || !ok {
		t.Errorf("Result = %d, %d, %v", tail, life, ok)
	}
}

func TestExample2(t *testing.T) {
	c := config(2, 4, 2, 3, 1)
	d, e := home.New(c)
	is(t, e, api.OK)
	p := laid(t, d, c, 0, []api.Image{image(1, 0xf)})
	laidImages(t, d, c, p, image(0, 1))
	over(t, d, c).rows(
		api.Row{Kind: api.RowScanned, Block: -1, Count: 1, Position: 2},
		api.Row{Kind: api.RowCarried, Block: 1, Value: filled(0xf)},
		api.Row{Kind: api.RowFlushed, Block: -1, Count: 4},
		api.Row{Kind: api.RowMarked, Block: -1, Position: 6},
		api.Row{Kind: api.RowLives, Block: -1, Position: 6},
	)
}

func TestExample3(t *testing.T) {
	c := config(2, 4, 2, 3, 1)
	over(t, disk(t, config(2, 4, 1, 3, 1), 0, 1), c).fails(api.ErrConfig)
	over(t, blank(t, 7), c).fails(api.ErrSuper)
	over(t, disk(t, c, most, 1), c).fails(api.ErrWrap)
}
