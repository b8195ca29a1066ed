package cache_test

import (
	"iter"
	"math"
	"slices"
	"testing"

	"wicket/api"
	"wicket/cache"
)

// most is the greatest position that may be.
const most uint64 = 1 << 62

// chance tells numbers that look like chance and are the same in each run.
type chance uint64

func (c *chance) next() uint64 {
	*c ^= *c << 13
	*c ^= *c >> 7
	*c ^= *c << 17
	return uint64(*c)
}

// below tells one of 0 to n - 1.
func (c *chance) below(n int) int {
	return int(c.next() % uint64(n))
}

// value tells one of a few values, the zeros among them, or one that hardly any other is like.
func (c *chance) value() api.Value {
	var v api.Value
	switch c.below(4) {
	case 0:
	case 1:
		v[c.below(len(v))] = byte(1 + c.below(2))
	default:
		for i := range v {
			v[i] = byte(c.next() >> 20)
		}
	}
	return v
}

// images tells images of some of so many blocks, by their numbers rising: each block is there as often as one of so many times.
func (c *chance) images(blocks, often int) []api.Image {
	var l []api.Image
	for b := range blocks {
		if c.below(often) == 0 {
			l = append(l, api.Image{Block: b, Value: c.value()})
		}
	}
	return l
}

// event is what has become of a block: a value was put, or dropped.
type event struct {
	entry   cache.Entry
	dropped bool
}

// model is a cache by another hand: all that has ever become of its blocks, and all positions that were put.
type model struct {
	blocks    int
	events    []event
	positions []uint64
}

func (m *model) refuses(images []api.Image, position uint64) api.Errno {
	for _, i := range images {
		if i.Block < 0 || i.Block > m.blocks-1 {
			return api.ErrBlock
		}
	}
	for n, i := range images {
		for _, ahead := range images[:n] {
			if i.Block <= ahead.Block {
				return api.ErrForm
			}
		}
	}
	for _, p := range m.positions {
		if position <= p {
			return api.ErrRing
		}
	}
	if position > most {
		return api.ErrRing
	}
	return api.OK
}

func (m *model) put(images []api.Image, position uint64) api.Errno {
	e := m.refuses(images, position)
	if e == api.OK {
		m.positions = append(m.positions, position)
		for _, i := range images {
			m.events = append(m.events, event{entry: cache.Entry{Block: i.Block, Value: i.Value, Position: position}})
		}
	}
	return e
}

func (m *model) get(block int) (cache.Entry, bool) {
	for n := len(m.events) - 1; n >= 0; n-- {
		if v := m.events[n]; v.entry.Block == block {
			if v.dropped {
				return cache.Entry{}, false
			}
			return v.entry, true
		}
	}
	return cache.Entry{}, false
}

func (m *model) entries() []cache.Entry {
	var l []cache.Entry
	for b := range m.blocks {
		if e, there := m.get(b); there {
			l = append(l, e)
		}
	}
	return l
}

func (m *model) drop(l []cache.Entry) int {
	n := 0
	for _, e := range l {
		if old, there := m.get(e.Block); there && old.Position == e.Position {
			m.events = append(m.events, event{entry: cache.Entry{Block: e.Block}, dropped: true})
			n++
		}
	}
	return n
}

func (m *model) last() (uint64, bool) {
	var p uint64
	for _, q := range m.positions {
		p = max(p, q)
	}
	return p, len(m.positions) > 0
}

func (m *model) copy() *model {
	return &model{m.blocks, slices.Clone(m.events), slices.Clone(m.positions)}
}

// filled tells a value whose bytes all are one.
func filled(n byte) api.Value {
	var v api.Value
	for i := range v {
		v[i] = n
	}
	return v
}

// image tells a block's image whose bytes all are one.
func image(block int, n byte) api.Image { return api.Image{Block: block, Value: filled(n)} }

// entry tells a block's entry whose bytes all are one.
func entry(block int, n byte, position uint64) cache.Entry {
	return cache.Entry{Block: block, Value: filled(n), Position: position}
}

// every tells an image for each of so many blocks.
func every(blocks int, n byte) []api.Image {
	var l []api.Image
	for b := range blocks {
		l = append(l, image(b, n+byte(b)))
	}
	return l
}

// far tells numbers that are no block of so many, and those that a narrower number, or another sign, would take for one.
func far(blocks int) []int {
	l := []int{-1, -2, -64, blocks, blocks + 1, 2 * blocks, 64, 65, 128, 1 << 16, 1 << 31, 1 << 32, 1 << 62, math.MinInt, math.MinInt + 1, math.MaxInt - 1, math.MaxInt}
	for _, b := range []int{0, blocks - 1} {
		l = append(l, ^b, b+64, b+128, b+256, b+1<<16, b+1<<32, b+math.MinInt, b-64, b-256)
	}
	return l
}

// few tells the entries of a sequence, and fails where it does not end.
func few(t *testing.T, s iter.Seq[cache.Entry]) []cache.Entry {
	t.Helper()
	if s == nil {
		t.Fatal("All is nil")
	}
	var l []cache.Entry
	for e := range s {
		if l = append(l, e); len(l) > 1<<10 {
			t.Fatal("a sequence that does not end")
		}
	}
	return l
}

// of makes a cache.
func of(t *testing.T, blocks int) *cache.Cache {
	t.Helper()
	c, e := cache.New(blocks)
	if e != api.OK || c == nil {
		t.Fatalf("New(%d) = %v, %d", blocks, c, e)
	}
	return c
}

// is holds an error against another one.
func is(t *testing.T, got, want api.Errno) {
	t.Helper()
	if got != want {
		t.Fatalf("it answers %d, want %d", got, want)
	}
}

// went holds how many entries went against another number.
func went(t *testing.T, got, want int) {
	t.Helper()
	if got != want {
		t.Fatalf("%d went, want %d", got, want)
	}
}

// has holds the entries of a cache, and their number, against others.
func has(t *testing.T, c *cache.Cache, want ...cache.Entry) {
	t.Helper()
	if l := c.Entries(); !slices.Equal(l, want) {
		t.Fatalf("Entries = %v, want %v", l, want)
	}
	if l := few(t, c.All()); !slices.Equal(l, want) {
		t.Fatalf("All gives %v, want %v", l, want)
	}
	if n := c.Len(); n != len(want) {
		t.Fatalf("Len = %d, want %d", n, len(want))
	}
}

// lasts holds the last position of a cache against another one.
func lasts(t *testing.T, c *cache.Cache, want uint64, wantPut bool) {
	t.Helper()
	if p, put := c.Last(); p != want || put != wantPut {
		t.Fatalf("Last = %d, %v, want %d, %v", p, put, want, wantPut)
	}
}

// gets holds a block's entry against another one.
func gets(t *testing.T, c *cache.Cache, block int, want cache.Entry) {
	t.Helper()
	if e, there := c.Get(block); e != want || !there {
		t.Fatalf("Get(%d) = %v, %v, want %v", block, e, there, want)
	}
}

// lacks asks for blocks that have no entry.
func lacks(t *testing.T, c *cache.Cache, blocks ...int) {
	t.Helper()
	for _, b := range blocks {
		if e, there := c.Get(b); e != (cache.Entry{}) || there {
			t.Fatalf("Get(%d) = %v, %v, and it has no entry", b, e, there)
		}
	}
}

// tells holds all that a cache tells against its model: the blocks of a store, and those beside them, one by one; and what its entries promise.
func tells(t *testing.T, c *cache.Cache, m *model) {
	t.Helper()
	has(t, c, m.entries()...)
	for b := -1; b <= 64; b++ {
		e, there := c.Get(b)
		if want, wantThere := m.get(b); e != want || there != wantThere {
			t.Fatalf("Get(%d) = %v, %v, want %v, %v", b, e, there, want, wantThere)
		}
	}
	p, put := m.last()
	lasts(t, c, p, put)
	ahead := -1
	for _, e := range c.Entries() {
		if e.Block <= ahead || e.Block >= m.blocks || !slices.Contains(m.positions, e.Position) {
			t.Fatalf("the entry %v behind block %d, of %d blocks", e, ahead, m.blocks)
		}
		ahead = e.Block
	}
}

// may asks, by copies, what a cache would take up: how many blocks it has, and which positions may come.
func may(t *testing.T, c *cache.Cache, m *model) {
	t.Helper()
	p, put := m.last()
	try := func(want api.Errno, block int, position uint64) {
		t.Helper()
		if e := c.Copy().Put([]api.Image{{Block: block}}, position); e != want {
			t.Fatalf("Put of block %d at %d = %d, want %d: %d blocks, and the last position is %d, %v", block, position, e, want, m.blocks, p, put)
		}
	}
	first := uint64(0)
	if put {
		first = p + 1
		try(api.ErrRing, 0, p)
		try(api.ErrRing, 0, p/2)
		try(api.ErrRing, 0, 0)
	}
	open := api.OK
	if first > most {
		open = api.ErrRing
	}
	try(open, 0, first)
	try(open, m.blocks-1, most)
	try(api.ErrRing, 0, most+1)
	try(api.ErrBlock, m.blocks, first)
	try(api.ErrBlock, -1, first)
}

// pair is a cache beside its model: each call is done with both.
type pair struct {
	t *testing.T
	c *cache.Cache
	m *model
}

func paired(t *testing.T, blocks int) *pair {
	t.Helper()
	return &pair{t, of(t, blocks), &model{blocks: blocks}}
}

func (p *pair) tells() {
	p.t.Helper()
	tells(p.t, p.c, p.m)
}

// put hands the same images to both, and holds what they answer and tell against each other.
func (p *pair) put(position uint64, images ...api.Image) {
	p.t.Helper()
	if e, want := p.c.Put(images, position), p.m.put(images, position); e != want {
		p.t.Fatalf("Put(%v, %d) = %d, want %d", images, position, e, want)
	}
	p.tells()
}

func (p *pair) drop(l ...cache.Entry) int {
	p.t.Helper()
	n, want := p.c.Drop(l), p.m.drop(l)
	if n != want {
		p.t.Fatalf("Drop(%v) = %d, want %d", l, n, want)
	}
	p.tells()
	return n
}

// next tells the position behind the last one.
func (p *pair) next() uint64 {
	last, put := p.m.last()
	if !put {
		return 0
	}
	return last + 1
}

func (p *pair) copy() *pair {
	return &pair{p.t, p.c.Copy(), p.m.copy()}
}

// refused puts images that may not be put; all that the cache tells stays.
func (p *pair) refused(want api.Errno, position uint64, images ...api.Image) {
	p.t.Helper()
	if e := p.c.Put(images, position); e != want {
		p.t.Fatalf("Put(%v, %d) = %d, want %d", images, position, e, want)
	}
	p.tells()
	may(p.t, p.c, p.m)
}

// spare is how many elements lie behind a list that roomy makes.
const spare = 70

// roomy tells the same list with spare room behind it.
func roomy[E any](list []E, filler E) []E {
	l := append(slices.Clone(list), slices.Repeat([]E{filler}, spare)...)
	return l[:len(list)]
}

// keeps tells whether a list made by roomy still is as it was made, spare room too.
func keeps[E comparable](l, was []E, filler E) bool {
	return slices.Equal(l, was) && slices.Equal(l[len(l):len(l)+spare], slices.Repeat([]E{filler}, spare))
}

// spoil writes over a list, spare room too.
func spoil[E any](l []E, with E) {
	l = l[:cap(l)]
	for i := range l {
		l[i] = with
	}
}

// spoilAnswers writes over all that a cache hands out, and into the room behind it, and lets it grow.
func spoilAnswers(c *cache.Cache) {
	bad := entry(-99, 99, 99)
	spoil(c.Entries(), bad)
	spoil(append(c.Entries(), bad, bad), bad)
	_ = append(c.Entries(), bad)
	for e := range c.All() {
		e.Value[3], e.Position = 99, 99
		_ = e
	}
}

func TestP17_1_NewMade(t *testing.T) {
	for blocks := 1; blocks <= api.MaxBlocks; blocks++ {
		p := paired(t, blocks)
		p.tells()
		may(t, p.c, p.m)
		has(t, p.c)
		lasts(t, p.c, 0, false)
	}
}

func TestP17_1_NewRefused(t *testing.T) {
	for _, blocks := range []int{0, 65, 66, 127, 128, 129, 1 << 16, 1<<16 + 1, 1<<31 - 1, 1 << 31, 1 << 32, 1<<32 + 1, 1<<32 + 64, 1 << 62, -1, -2, -63, -64, -65, -1 << 32, math.MinInt, math.MinInt + 1, math.MinInt + 64, math.MaxInt - 1, math.MaxInt} {
		if c, e := cache.New(blocks); c != nil || e != api.ErrInput {
			t.Errorf("New(%d) = %v, %d", blocks, c, e)
		}
	}
}

func TestP17_1_CachesOfTheirOwn(t *testing.T) {
	a, b := paired(t, 3), paired(t, 3)
	a.put(5, image(0, 1), image(2, 2))
	b.tells()
	b.put(0, image(2, 3))
	a.tells()
	went(t, a.drop(a.c.Entries()...), 2)
	b.tells()
	a.put(6)
	b.put(1, every(3, 7)...)
	a.tells()
}

func TestP17_2_EachBlock(t *testing.T) {
	for _, blocks := range []int{1, 2, 3, 31, 63, 64} {
		for b := range blocks {
			p := paired(t, blocks)
			p.put(3, image(b, 7))
			has(t, p.c, entry(b, 7, 3))
			gets(t, p.c, b, entry(b, 7, 3))
			lasts(t, p.c, 3, true)
		}
	}
}

func TestP17_2_AnImageForEveryBlock(t *testing.T) {
	for blocks := 1; blocks <= 64; blocks++ {
		p := paired(t, blocks)
		p.put(0, every(blocks, 1)...)
		if n := p.c.Len(); n != blocks {
			t.Fatalf("Len = %d of %d", n, blocks)
		}
		p.put(9, every(blocks, 100)...)
		p.refused(api.ErrBlock, 10, every(blocks+1, 3)...)
		p.put(10, image(0, 200), image(blocks-1, 201))
	}
}

func TestP17_2_NumbersThatAreNoBlock(t *testing.T) {
	for _, blocks := range []int{1, 2, 5, 63, 64} {
		p := paired(t, blocks)
		p.put(4, image(0, 1))
		for _, b := range far(blocks) {
			p.refused(api.ErrBlock, 5, image(b, 9))
			p.refused(api.ErrBlock, 5, image(0, 8), image(b, 9))
			p.refused(api.ErrBlock, 5, image(b, 9), image(blocks-1, 8))
			p.refused(api.ErrBlock, 5, image(0, 8), image(b, 9), image(blocks-1, 8))
		}
	}
}

func TestP17_2_BlocksThatDoNotRise(t *testing.T) {
	p := paired(t, 5)
	p.put(2, image(1, 1), image(3, 2))
	for _, list := range [][]int{
		{1, 0}, {4, 3}, {0, 0}, {4, 4}, {2, 2},
		{0, 1, 1}, {0, 0, 1}, {0, 1, 0}, {1, 0, 2}, {2, 1, 0}, {0, 2, 1}, {4, 4, 4},
		{0, 1, 2, 3, 4, 4}, {0, 0, 1, 2, 3, 4}, {0, 1, 3, 2, 4}, {0, 1, 2, 3, 4, 0}, {4, 3, 2, 1, 0}, {1, 2, 3, 4, 0},
	} {
		var images []api.Image
		for i, b := range list {
			images = append(images, image(b, byte(50+i)))
		}
		p.refused(api.ErrForm, 3, images...)
	}
	p.put(3, image(0, 3), image(2, 4), image(3, 5), image(4, 6))
}

func TestP17_2_AllShortLists(t *testing.T) {
	all := [][]int{nil}
	for from := 0; len(all[len(all)-1]) < 4; {
		until := len(all)
		for _, l := range all[from:until] {
			for _, b := range []int{math.MinInt, -1, 0, 1, 2, 3, math.MaxInt} {
				all = append(all, append(slices.Clone(l), b))
			}
		}
		from = until
	}
	made := 0
	p := paired(t, 3)
	p.put(7, image(1, 1))
	for _, list := range all {
		var images []api.Image
		for i, b := range list {
			images = append(images, image(b, byte(i+2)))
		}
		for _, position := range []uint64{6, 7, 8, most, most + 1} {
			q := p.copy()
			q.put(position, images...)
			if last, _ := q.c.Last(); last != 7 {
				made++
			}
		}
	}
	// All subsets of three blocks, at two positions each.
	if made != 16 {
		t.Errorf("%d were put", made)
	}
}

func TestP17_2_Positions(t *testing.T) {
	for _, first := range []uint64{0, 1, 2, 7, 1<<31 - 1, 1 << 31, 1<<32 - 1, 1 << 32, 1<<32 + 7, 1 << 53, 1<<53 + 1, most - 2, most - 1, most} {
		for _, images := range [][]api.Image{nil, {}, {image(0, 1)}, every(3, 2)} {
			p := paired(t, 3)
			p.put(first, images...)
			lasts(t, p.c, first, true)
			may(t, p.c, p.m)
			p.refused(api.ErrRing, first, image(1, 9))
			p.refused(api.ErrRing, 0, image(1, 9))
			if first > 0 {
				p.refused(api.ErrRing, first-1, image(1, 9))
			}
			p.refused(api.ErrRing, most+1, image(1, 9))
			p.refused(api.ErrRing, math.MaxUint64)
			if first < most {
				p.put(first+1, image(1, 4))
				lasts(t, p.c, first+1, true)
			}
		}
	}
}

func TestP17_2_PositionsBeyondTheGreatest(t *testing.T) {
	p := paired(t, 2)
	beyond := []uint64{most + 1, most + 2, 1<<62 + 1<<32, 1<<63 - 1, 1 << 63, 1<<63 + 1, math.MaxUint64 - 1, math.MaxUint64}
	for _, position := range beyond {
		p.refused(api.ErrRing, position)
		p.refused(api.ErrRing, position, image(1, 1))
	}
	lasts(t, p.c, 0, false)
	p.put(most-1, image(0, 1))
	p.put(most, image(1, 2))
	lasts(t, p.c, most, true)
	// Behind the greatest one none may come, whatever is dropped.
	for range 2 {
		for _, position := range append(beyond, 0, 1, most-1, most) {
			p.refused(api.ErrRing, position)
			p.refused(api.ErrRing, position, image(1, 1))
		}
		p.drop(p.c.Entries()...)
	}
	has(t, p.c)
}

func TestP17_2_PositionsAreHeldAgainstEachOtherWhole(t *testing.T) {
	// Numbers whose lower halves, or whose nearest floats, would say another order.
	p := paired(t, 2)
	p.put(1<<32+9, image(0, 1))
	p.refused(api.ErrRing, 1<<32+8)
	p.refused(api.ErrRing, 10)
	p.put(1<<33+1, image(0, 2))
	p.refused(api.ErrRing, 1<<32+10)
	p.put(1<<61, image(1, 3))
	p.refused(api.ErrRing, 1<<61-1)
	p.put(1<<61+1, image(1, 4))
	p.refused(api.ErrRing, 1<<61)
	has(t, p.c, entry(0, 2, 1<<33+1), entry(1, 4, 1<<61+1))
}

func TestP17_2_NoImages(t *testing.T) {
	p := paired(t, 2)
	for n, images := range [][]api.Image{nil, {}, make([]api.Image, 0, 4)} {
		p.put(uint64(n), images...)
		has(t, p.c)
		lasts(t, p.c, uint64(n), true)
	}
	p.put(8, image(1, 1))
	p.put(9)
	has(t, p.c, entry(1, 1, 8))
	lasts(t, p.c, 9, true)
	p.refused(api.ErrRing, 9)
	p.refused(api.ErrRing, 8)
}

func TestP17_2_NoImagesAtPositionZero(t *testing.T) {
	p := paired(t, 1)
	lasts(t, p.c, 0, false)
	p.put(0)
	lasts(t, p.c, 0, true)
	p.refused(api.ErrRing, 0)
	p.put(1)
	lasts(t, p.c, 1, true)
}

func TestP17_2_ALaterImageTakesTheEntrysPlace(t *testing.T) {
	p := paired(t, 4)
	p.put(1, every(4, 10)...)
	p.put(2, image(1, 1), image(3, 2))
	has(t, p.c, entry(0, 10, 1), entry(1, 1, 2), entry(2, 12, 1), entry(3, 2, 2))
	// The same value anew is of the later commit.
	p.put(5, image(1, 1), image(2, 12))
	has(t, p.c, entry(0, 10, 1), entry(1, 1, 5), entry(2, 12, 5), entry(3, 2, 2))
	p.put(6, api.Image{Block: 0})
	has(t, p.c, cache.Entry{Block: 0, Position: 6}, entry(1, 1, 5), entry(2, 12, 5), entry(3, 2, 2))
}

func TestP17_3_GetOfNoBlock(t *testing.T) {
	for _, blocks := range []int{1, 3, 64} {
		p := paired(t, blocks)
		for range 2 {
			lacks(t, p.c, far(blocks)...)
			p.put(0, every(blocks, 5)...)
		}
	}
}

func TestP17_3_GetBetweenBelowAndAbove(t *testing.T) {
	p := paired(t, 30)
	p.put(1, image(10, 1), image(12, 2), image(20, 3))
	lacks(t, p.c, 0, 9, 11, 13, 19, 21, 29, -1, 30)
	gets(t, p.c, 10, entry(10, 1, 1))
	gets(t, p.c, 12, entry(12, 2, 1))
	gets(t, p.c, 20, entry(20, 3, 1))
}

func TestP17_3_AnEntryThatLooksLikeNone(t *testing.T) {
	// Block 0 with zeros at position 0 is the zero Entry, and is there.
	p := paired(t, 2)
	lacks(t, p.c, 0, 1)
	p.put(0, api.Image{})
	gets(t, p.c, 0, cache.Entry{})
	has(t, p.c, cache.Entry{})
	lacks(t, p.c, 1)
	went(t, p.drop(cache.Entry{}), 1)
	lacks(t, p.c, 0)
	lasts(t, p.c, 0, true)
}

func TestP17_3_LenLastAndEntries(t *testing.T) {
	c := of(t, 3)
	has(t, c)
	lasts(t, c, 0, false)
	is(t, c.Put(nil, 4), api.OK)
	has(t, c)
	lasts(t, c, 4, true)
	is(t, c.Put([]api.Image{image(1, 1)}, 5), api.OK)
	has(t, c, entry(1, 1, 5))
	lasts(t, c, 5, true)
	is(t, c.Put([]api.Image{image(0, 2), image(2, 3)}, 8), api.OK)
	has(t, c, entry(0, 2, 8), entry(1, 1, 5), entry(2, 3, 8))
	lasts(t, c, 8, true)
	went(t, c.Drop([]cache.Entry{entry(1, 1, 5)}), 1)
	has(t, c, entry(0, 2, 8), entry(2, 3, 8))
	lasts(t, c, 8, true)
	went(t, c.Drop(c.Entries()), 2)
	has(t, c)
	// What goes takes the last position along with none of it.
	lasts(t, c, 8, true)
	is(t, c.Put([]api.Image{image(1, 1)}, 8), api.ErrRing)
	is(t, c.Put([]api.Image{image(1, 1)}, 9), api.OK)
	has(t, c, entry(1, 1, 9))
}

func TestP17_3_EntriesOfFallingAndOfRisingPuts(t *testing.T) {
	for _, blocks := range []int{1, 2, 3, 8, 64} {
		rising, falling := paired(t, blocks), paired(t, blocks)
		for i := range blocks {
			rising.put(uint64(i), image(i, byte(i)))
			falling.put(uint64(i), image(blocks-1-i, byte(i)))
		}
		for b, e := range falling.c.Entries() {
			if want := entry(b, byte(blocks-1-b), uint64(blocks-1-b)); e != want {
				t.Fatalf("the entry %v stands at %d", e, b)
			}
		}
	}
}

func TestP17_3_EntriesWhateverTheOrderOfPuts(t *testing.T) {
	runs := 0
	var try func(p *pair, left []int)
	try = func(p *pair, left []int) {
		runs++
		for i, b := range left {
			q := p.copy()
			q.put(q.next(), image(b, byte(b)))
			try(q, slices.Delete(slices.Clone(left), i, i+1))
		}
	}
	try(paired(t, 64), []int{0, 3, 4, 40, 63})
	if runs != 1+5+20+60+120+120 {
		t.Errorf("%d orders were tried", runs)
	}
}

func TestP17_3_AllEndsAsSoonAsThereIsEnough(t *testing.T) {
	c := of(t, 5)
	is(t, c.Put([]api.Image{image(0, 1), image(1, 2), image(3, 3), image(4, 4)}, 2), api.OK)
	all := c.All()
	want := c.Entries()
	for n := 1; n <= len(want); n++ {
		var l []cache.Entry
		for e := range all {
			if l = append(l, e); len(l) == n {
				break
			}
		}
		if !slices.Equal(l, want[:n]) {
			t.Errorf("the first %d are %v", n, l)
		}
		// By hand: behind the false none is told.
		calls := 0
		all(func(e cache.Entry) bool {
			calls++
			return calls < n
		})
		if calls != n {
			t.Errorf("%d were told to one who had enough of %d", calls, n)
		}
	}
	has(t, c, want...)
}

func TestP17_3_AllBeginsAnewForEach(t *testing.T) {
	c := of(t, 3)
	is(t, c.Put(every(3, 1), 0), api.OK)
	all := c.All()
	want := c.Entries()
	for range 3 {
		if l := few(t, all); !slices.Equal(l, want) {
			t.Fatalf("All gives %v", l)
		}
		for range all {
			break
		}
	}
	// Loops within loops, and one that stands still beside another one.
	for range all {
		if l := few(t, all); !slices.Equal(l, want) {
			t.Fatalf("within a loop All gives %v", l)
		}
	}
	next, stop := iter.Pull(all)
	defer stop()
	for i := range want {
		if e, more := next(); !more || e != want[i] {
			t.Errorf("next = %v, %v", e, more)
		}
		if l := few(t, all); !slices.Equal(l, want) {
			t.Fatalf("beside another loop All gives %v", l)
		}
	}
	if e, more := next(); more {
		t.Errorf("next = %v behind the last one", e)
	}
}

func TestP17_3_AllTellsWhatIsThereWhenItIsRangedOver(t *testing.T) {
	p := paired(t, 4)
	all := p.c.All()
	holds := func() {
		t.Helper()
		if l := few(t, all); !slices.Equal(l, p.m.entries()) {
			t.Fatalf("All gives %v, want %v", l, p.m.entries())
		}
	}
	holds()
	p.put(3, image(2, 1))
	holds()
	p.put(4, image(0, 2), image(2, 3), image(3, 4))
	holds()
	p.put(5)
	holds()
	went(t, p.drop(entry(2, 3, 4)), 1)
	holds()
	p.refused(api.ErrRing, 5, image(1, 1))
	holds()
	p.put(6, every(4, 20)...)
	holds()
	went(t, p.drop(p.c.Entries()...), 4)
	holds()
	p.put(7, image(1, 5))
	holds()
	// One asked for ahead of a copy is the first one's.
	q := p.copy()
	q.put(8, image(3, 6))
	holds()
	p.put(9, image(0, 7))
	holds()
}

func TestP17_3_AllWhileTheCacheIsChanged(t *testing.T) {
	// What is told then is free; that it ends, and that the cache has what it is said to have, is not.
	for _, change := range []func(p *pair, e cache.Entry){
		func(p *pair, e cache.Entry) { p.put(p.next(), image(e.Block, 9)) },
		func(p *pair, e cache.Entry) { p.put(p.next(), every(8, 3)...) },
		func(p *pair, e cache.Entry) { p.put(p.next(), image(7-e.Block, 9)) },
		func(p *pair, e cache.Entry) { p.drop(e) },
		func(p *pair, e cache.Entry) { p.drop(p.c.Entries()...) },
		func(p *pair, e cache.Entry) { p.drop(p.c.Entries()...); p.put(p.next(), every(8, 3)...) },
	} {
		for _, images := range [][]api.Image{every(8, 1), {image(0, 1)}, {image(1, 1), image(4, 2), image(6, 3)}} {
			p := paired(t, 8)
			p.put(0, images...)
			calls := 0
			for e := range p.c.All() {
				change(p, e)
				if calls++; calls > 1000 {
					t.Fatal("a sequence that does not end")
				}
			}
			p.tells()
		}
	}
}

func TestP17_4_DropOfNothing(t *testing.T) {
	p := paired(t, 3)
	went(t, p.drop(), 0)
	went(t, p.c.Drop(nil), 0)
	p.put(1, every(3, 1)...)
	went(t, p.c.Drop(nil), 0)
	went(t, p.c.Drop([]cache.Entry{}), 0)
	went(t, p.c.Drop(make([]cache.Entry, 0, 3)), 0)
	p.tells()
}

func TestP17_4_DropOfOne(t *testing.T) {
	for _, blocks := range []int{1, 2, 5, 64} {
		for b := range blocks {
			p := paired(t, blocks)
			p.put(3, every(blocks, 1)...)
			e, _ := p.c.Get(b)
			went(t, p.drop(e), 1)
			lacks(t, p.c, b)
			if n := p.c.Len(); n != blocks-1 {
				t.Fatalf("Len = %d", n)
			}
			went(t, p.drop(e), 0)
			p.put(4, image(b, 99))
			went(t, p.drop(e), 0)
			gets(t, p.c, b, entry(b, 99, 4))
		}
	}
}

func TestP17_4_TheSameEntryTwice(t *testing.T) {
	p := paired(t, 4)
	p.put(2, every(4, 1)...)
	went(t, p.drop(entry(1, 2, 2), entry(1, 2, 2)), 1)
	went(t, p.drop(entry(3, 4, 2), entry(0, 1, 2), entry(3, 4, 2), entry(3, 4, 2), entry(0, 1, 2)), 2)
	has(t, p.c, entry(2, 3, 2))
}

func TestP17_4_AnotherValue(t *testing.T) {
	p := paired(t, 3)
	p.put(2, every(3, 1)...)
	went(t, p.drop(entry(1, 200, 2)), 1)
	went(t, p.drop(cache.Entry{Block: 0, Position: 2}), 1)
	has(t, p.c, entry(2, 3, 2))
}

func TestP17_4_AnotherPosition(t *testing.T) {
	p := paired(t, 3)
	p.put(6, every(3, 1)...)
	p.put(9, image(1, 20))
	for _, position := range []uint64{0, 1, 5, 7, 8, 10, 6 + 1<<32, 9 + 1<<32, most, most + 6, 1<<63 + 6, math.MaxUint64, math.MaxUint64 - 6} {
		went(t, p.drop(entry(0, 1, position), entry(1, 20, position), entry(2, 3, position)), 0)
	}
	// A position that was put, but another block's.
	went(t, p.drop(entry(0, 1, 9), entry(1, 2, 6), entry(2, 3, 9)), 0)
	went(t, p.drop(entry(0, 1, 6), entry(1, 2, 9), entry(2, 3, 6)), 3)
}

func TestP17_4_NumbersThatAreNoBlock(t *testing.T) {
	for _, blocks := range []int{1, 3, 64} {
		p := paired(t, blocks)
		for range 2 {
			for _, b := range far(blocks) {
				went(t, p.drop(entry(b, 1, 0), entry(b, 1, 1)), 0)
			}
			p.put(0, every(blocks, 1)...)
		}
		// Beside one that is there.
		went(t, p.drop(entry(-1, 1, 0), entry(0, 1, 0), entry(blocks, 1, 0)), 1)
	}
}

func TestP17_4_DropInEachOrder(t *testing.T) {
	runs := 0
	var try func(p *pair, left []cache.Entry)
	try = func(p *pair, left []cache.Entry) {
		runs++
		for i, e := range left {
			q := p.copy()
			went(t, q.drop(e), 1)
			try(q, slices.Delete(slices.Clone(left), i, i+1))
		}
	}
	p := paired(t, 64)
	p.put(5, image(0, 1), image(3, 2), image(4, 3), image(40, 4), image(63, 5))
	try(p, p.c.Entries())
	if runs != 1+5+20+60+120+120 {
		t.Errorf("%d orders were tried", runs)
	}
}

func TestP17_4_DropOfEachSubsetInOneCall(t *testing.T) {
	all := []cache.Entry{entry(0, 1, 8), entry(1, 2, 8), entry(3, 3, 8), entry(4, 4, 8), entry(63, 5, 8)}
	for set := range 1 << len(all) {
		var drop, stay []cache.Entry
		for i, e := range all {
			if set>>i&1 == 1 {
				drop = append(drop, e)
			} else {
				stay = append(stay, e)
			}
		}
		for range 2 {
			p := paired(t, 64)
			p.put(8, image(0, 1), image(1, 2), image(3, 3), image(4, 4), image(63, 5))
			went(t, p.drop(drop...), len(drop))
			has(t, p.c, stay...)
			went(t, p.drop(drop...), 0)
			slices.Reverse(drop)
		}
	}
}

func TestP17_4_ManyEntriesThatAreNotThere(t *testing.T) {
	p := paired(t, 64)
	p.put(1, every(64, 1)...)
	l := slices.Repeat([]cache.Entry{entry(3, 4, 0), entry(64, 1, 1), entry(5, 6, 1), entry(-5, 6, 1)}, 50000)
	went(t, p.c.Drop(l), 1)
	went(t, p.m.drop(l[:4]), 1)
	p.tells()
}

func TestP17_5_CopiesAndTheFirstCacheDoNotMeet(t *testing.T) {
	steps := map[string][]func(p *pair){
		"nothing":              {},
		"puts ahead of all":    {func(p *pair) { p.put(p.next(), image(0, 11)) }, func(p *pair) { p.put(p.next(), image(0, 12)) }},
		"puts in the midst":    {func(p *pair) { p.put(p.next(), image(2, 21), image(3, 22)) }},
		"puts behind all":      {func(p *pair) { p.put(p.next(), image(5, 31)) }},
		"puts all":             {func(p *pair) { p.put(p.next(), every(6, 40)...) }},
		"puts no images":       {func(p *pair) { p.put(p.next()) }, func(p *pair) { p.put(p.next() + 5) }},
		"drops all":            {func(p *pair) { p.drop(p.c.Entries()...) }},
		"drops the first":      {func(p *pair) { p.drop(p.c.Entries()[:min(1, p.c.Len())]...) }},
		"drops, and puts anew": {func(p *pair) { p.drop(p.c.Entries()...) }, func(p *pair) { p.put(p.next(), every(6, 60)...) }},
		"is refused":           {func(p *pair) { p.put(0, image(6, 1)) }, func(p *pair) { p.put(p.next(), image(1, 1), image(0, 1)) }},
	}
	// Ahead of the copy: none, some or all blocks have an entry, with and without room behind them.
	before := [][]int{nil, {3}, {1, 5}, {5, 1}, {4, 2, 0}, {0, 1, 2, 3, 4, 5}, {5, 4, 3, 2, 1, 0}, {3, 3, 3}}
	for a, stepsA := range steps {
		for b, stepsB := range steps {
			for _, list := range before {
				first := paired(t, 6)
				for i, block := range list {
					first.put(uint64(i), image(block, byte(i)))
				}
				copied := first.copy()
				copied.tells()
				for i := range max(len(stepsA), len(stepsB)) {
					if i < len(stepsA) {
						stepsA[i](first)
						copied.tells()
					}
					if i < len(stepsB) {
						stepsB[i](copied)
						first.tells()
					}
				}
				may(t, first.c, first.m)
				may(t, copied.c, copied.m)
				if t.Failed() {
					t.Fatalf("%s, %s", a, b)
				}
			}
		}
	}
}

func TestP17_5_ACopyOfACopy(t *testing.T) {
	a := paired(t, 3)
	a.put(4, image(1, 1))
	b := a.copy()
	c := b.copy()
	all := []*pair{a, b, c, c.copy()}
	for i, p := range all {
		p.put(uint64(5+i), image(2, byte(10+i)))
		p.put(uint64(15+i), image(0, byte(20+i)), image(1, byte(30+i)))
		p.drop(entry(2, byte(10+i), uint64(5+i)))
		for _, other := range all {
			other.tells()
			may(t, other.c, other.m)
		}
	}
	empty := of(t, 3).Copy().Copy().Copy()
	has(t, empty)
	lasts(t, empty, 0, false)
	is(t, empty.Put(every(3, 1), 0), api.OK)
}

func TestP17_5_ACopyOutlivesTheFirst(t *testing.T) {
	a := paired(t, 2)
	a.put(0, image(0, 1))
	b := a.copy()
	all := a.c.All()
	c := b.copy()
	a.c = nil
	b.put(1, image(1, 2))
	b.c = nil
	c.tells()
	c.put(1, image(0, 3))
	if l := few(t, all); !slices.Equal(l, []cache.Entry{entry(0, 1, 0)}) {
		t.Errorf("All gives %v", l)
	}
}

func TestP17_5_NilInEveryCall(t *testing.T) {
	var c *cache.Cache
	for range 2 {
		for _, position := range []uint64{0, 1, most, most + 1, math.MaxUint64} {
			for _, images := range [][]api.Image{nil, {}, {image(0, 1)}, {image(1, 1), image(0, 1)}, {image(-1, 1)}, {image(64, 1)}, every(64, 1)} {
				is(t, c.Put(images, position), api.ErrHandle)
			}
		}
		lacks(t, c, append(far(64), 0, 1, 63)...)
		has(t, c)
		lasts(t, c, 0, false)
		for _, l := range [][]cache.Entry{nil, {}, {{}}, {entry(1, 1, 1)}, {entry(-1, 1, 1), entry(63, 1, most)}} {
			went(t, c.Drop(l), 0)
		}
		if c.Copy() != nil {
			t.Error("Copy is not nil")
		}
		if all := c.All(); all == nil {
			t.Error("All is nil")
		} else {
			for e := range all {
				t.Errorf("All gives %v", e)
			}
		}
	}
	// What New answers beside an error is such a cache.
	c, e := cache.New(0)
	is(t, e, api.ErrInput)
	is(t, c.Put(nil, 0), api.ErrHandle)
}

func TestP17_6_GetAnswersWhatWasPutLast(t *testing.T) {
	r := chance(176)
	for range 30 {
		blocks := 1 + r.below(64)
		c := of(t, blocks)
		var last [64]cache.Entry
		var there [64]bool
		position := uint64(r.below(3))
		for range 150 {
			images := r.images(blocks, 1+r.below(6))
			is(t, c.Put(images, position), api.OK)
			for _, i := range images {
				last[i.Block], there[i.Block] = cache.Entry{Block: i.Block, Value: i.Value, Position: position}, true
			}
			position += 1 + uint64(r.below(3))
			if b := r.below(blocks); there[b] {
				went(t, c.Drop([]cache.Entry{{Block: b, Position: last[b].Position}}), 1)
				there[b] = false
			}
			for b := range blocks {
				if there[b] {
					gets(t, c, b, last[b])
				} else {
					lacks(t, c, b)
				}
			}
		}
	}
}

func TestP17_6_PutTakesNoneAwayAndDropBringsNone(t *testing.T) {
	r := chance(1761)
	p := paired(t, 20)
	blocks := func() map[int]uint64 {
		l := map[int]uint64{}
		for _, e := range p.c.Entries() {
			l[e.Block] = e.Position
		}
		return l
	}
	for range 1500 {
		was := blocks()
		if r.below(2) == 0 {
			p.put(p.next()+uint64(r.below(2)), r.images(20, 6)...)
			is := blocks()
			for b := range was {
				if _, there := is[b]; !there {
					t.Fatalf("Put has taken block %d away", b)
				}
			}
			continue
		}
		l := p.c.Entries()
		for i := range l {
			l[i].Position -= uint64(r.below(2))
		}
		n := p.drop(l...)
		is := blocks()
		for b, position := range is {
			if old, there := was[b]; !there || old != position {
				t.Fatalf("Drop has brought block %d", b)
			}
		}
		if len(is)+n != len(was) {
			t.Fatalf("%d went, of %d are left %d", n, len(was), len(is))
		}
	}
}

func TestP17_7_DropOfEntriesMakesItEmpty(t *testing.T) {
	r := chance(177)
	for range 300 {
		p := paired(t, 1+r.below(64))
		for range r.below(6) {
			p.put(p.next(), r.images(p.m.blocks, 3)...)
		}
		last, put := p.c.Last()
		l := p.c.Entries()
		went(t, p.drop(l...), len(l))
		has(t, p.c)
		lasts(t, p.c, last, put)
		went(t, p.drop(l...), 0)
	}
	for blocks := 1; blocks <= 64; blocks++ {
		p := paired(t, blocks)
		p.put(0, every(blocks, 1)...)
		went(t, p.drop(p.c.Entries()...), blocks)
		has(t, p.c)
	}
}

func TestP17_7_DropOfEarlierEntriesLeavesWhatWasPutSince(t *testing.T) {
	r := chance(1771)
	for range 300 {
		p := paired(t, 1+r.below(20))
		for range r.below(4) {
			p.put(p.next(), r.images(p.m.blocks, 3)...)
		}
		early := p.c.Entries()
		from := p.next()
		for range r.below(4) {
			p.put(p.next(), r.images(p.m.blocks, 4)...)
			if l := p.c.Entries(); len(l) > 0 && r.below(2) == 0 {
				p.drop(l[r.below(len(l))])
			}
		}
		// Some of the values that are put since are the same as earlier.
		if len(early) > 0 && r.below(2) == 0 {
			p.put(p.next(), api.Image{Block: early[0].Block, Value: early[0].Value})
		}
		var since []cache.Entry
		for _, e := range p.c.Entries() {
			if e.Position >= from {
				since = append(since, e)
			}
		}
		n := p.c.Len()
		went(t, p.drop(early...), n-len(since))
		has(t, p.c, since...)
		went(t, p.drop(early...), 0)
	}
}

func TestP17_8_EntriesHavePositionsThatWerePut(t *testing.T) {
	// tells holds each entry's position against those that were put, and its block against the one ahead of it.
	r := chance(178)
	for range 60 {
		p := paired(t, 1+r.below(64))
		for range 40 {
			// Some of these are refused: their positions must not be seen.
			p.put(p.next()+uint64(r.below(4))-2, r.images(p.m.blocks+r.below(2), 4)...)
			if l := p.c.Entries(); r.below(4) == 0 {
				p.drop(l[r.below(len(l)+1):]...)
			}
		}
	}
}

// step does one of eleven calls with both: five puts, three that are refused, two drops, a copy that takes the place of the first.
func (p *pair) step(call int) {
	p.t.Helper()
	switch n := byte(p.next()); call {
	case 0:
		p.put(p.next())
	case 1:
		p.put(p.next(), image(0, n))
	case 2:
		p.put(p.next(), image(1, n))
	case 3:
		p.put(p.next()+1, image(2, n))
	case 4:
		p.put(p.next(), image(0, n), image(2, n))
	case 5:
		p.put(p.next(), image(1, n), image(3, n))
	case 6:
		p.put(p.next(), image(2, n), image(1, n))
	case 7:
		p.put(p.next()-1, image(1, n))
	case 8:
		p.drop(p.c.Entries()...)
	case 9:
		p.drop(entry(2, 9, p.next()-1), entry(0, 9, p.next()-2))
	case 10:
		old := p.c
		*p = *p.copy()
		old.Drop(old.Entries())
		old.Put(every(3, 77), most)
	}
}

func TestP17_1_To_17_8_AllShortRuns(t *testing.T) {
	runs := 1
	for length := range 5 {
		for n := range runs {
			p := paired(t, 3)
			all := p.c.All()
			for range length {
				p.step(n % 11)
				n /= 11
			}
			p.tells()
			may(t, p.c, p.m)
			if len(few(t, all)) > 3 {
				t.Fatal("more entries than blocks")
			}
		}
		runs *= 11
	}
}

func TestP17_1_To_17_8_RunsWithCopies(t *testing.T) {
	r := chance(17)
	for range 60 {
		pairs := []*pair{paired(t, 1+r.below(64)), paired(t, 1+r.below(8)), paired(t, 3)}
		early := make([][]cache.Entry, len(pairs))
		for range 50 {
			i := r.below(len(pairs))
			p := pairs[i]
			switch r.below(6) {
			case 0:
				p.put(p.next()+uint64(r.below(3))-1, r.images(p.m.blocks+1, 3)...)
			case 1:
				p.drop(early[i]...)
				early[i] = p.c.Entries()
			case 2:
				l := p.c.Entries()
				p.drop(l[:r.below(len(l)+1)]...)
			default:
				p.put(p.next()+uint64(r.below(3)), r.images(p.m.blocks, 1+r.below(9))...)
			}
			if j := r.below(len(pairs)); r.below(6) == 0 && j != i {
				pairs[j] = p.copy()
			}
			for _, other := range pairs {
				other.tells()
				may(t, other.c, other.m)
				spoilAnswers(other.c)
			}
		}
	}
}

// plain is what a block of a long run has: the model goes back through all that was ever put.
type plain struct {
	entry cache.Entry
	there bool
}

// listed tells the entries that are there.
func listed(blocks []plain) []cache.Entry {
	var l []cache.Entry
	for _, b := range blocks {
		if b.there {
			l = append(l, b.entry)
		}
	}
	return l
}

func TestP17_6_To_17_8_LongRuns(t *testing.T) {
	r := chance(1705)
	c := of(t, 64)
	all := c.All()
	blocks := make([]plain, 64)
	var early []cache.Entry
	position := uint64(0)
	for n := range 20000 {
		images := roomy(r.images(64, 2+r.below(60)), image(-98, 98))
		is(t, c.Put(images, position), api.OK)
		for _, i := range images {
			blocks[i.Block] = plain{cache.Entry{Block: i.Block, Value: i.Value, Position: position}, true}
		}
		spoil(images, image(-98, 98))
		position += 1 + uint64(r.below(2))
		switch r.below(4) {
		case 0:
			want := 0
			for _, e := range early {
				if b := &blocks[e.Block]; b.there && b.entry.Position == e.Position {
					b.there = false
					want++
				}
			}
			went(t, c.Drop(early), want)
			early = c.Entries()
		case 1:
			is(t, c.Put(every(64, 1), position-uint64(2+r.below(2))), api.ErrRing)
			is(t, c.Put(every(65, 1), position), api.ErrBlock)
			is(t, c.Put([]api.Image{image(9, 1), image(9, 2)}, position), api.ErrForm)
		}
		spoilAnswers(c)
		has(t, c, listed(blocks)...)
		if l := few(t, all); !slices.Equal(l, listed(blocks)) {
			t.Fatalf("All gives %v", l)
		}
		if n%100 == 0 {
			twin := c.Copy()
			l := c.Entries()
			went(t, c.Drop(l), len(l))
			has(t, c)
			c, all = twin, twin.All()
		}
	}
}

func TestP17_5_LongChainsOfCopies(t *testing.T) {
	r := chance(1703)
	chain := []*pair{paired(t, 12)}
	for range 150 {
		p := chain[len(chain)-1].copy()
		p.put(p.next(), r.images(12, 5)...)
		chain = append(chain, p)
		early := chain[r.below(len(chain))]
		early.put(early.next(), r.images(12, 5)...)
		l := early.c.Entries()
		early.drop(l[r.below(len(l)+1):]...)
		for _, other := range chain {
			other.tells()
		}
	}
}

func TestR2_OrderOfErrors(t *testing.T) {
	p := paired(t, 3)
	p.put(5, image(1, 1))
	for _, position := range []uint64{5, 4, 0, most + 1, math.MaxUint64, 6} {
		// No block, blocks that do not rise, and, but for 6, a position that may not come: the first of them is told.
		for _, images := range [][]api.Image{
			{image(3, 1)}, {image(-1, 1)}, {image(3, 1), image(3, 2)}, {image(3, 1), image(2, 2)},
			{image(2, 1), image(-1, 2)}, {image(2, 1), image(1, 2), image(3, 3)}, {image(1, 1), image(1, 2), image(-1, 3)},
			{image(math.MaxInt, 1), image(0, 1), image(0, 2)}, {image(0, 1), image(0, 2), image(math.MinInt, 1)},
		} {
			p.refused(api.ErrBlock, position, images...)
		}
		for _, images := range [][]api.Image{{image(2, 1), image(1, 2)}, {image(0, 1), image(0, 2)}, {image(0, 1), image(2, 2), image(1, 3)}} {
			p.refused(api.ErrForm, position, images...)
		}
		if position != 6 {
			p.refused(api.ErrRing, position, image(0, 1), image(2, 2))
			p.refused(api.ErrRing, position)
		}
	}
	// A nil cache comes ahead of all of them.
	var none *cache.Cache
	is(t, none.Put([]api.Image{image(3, 1), image(-1, 2)}, most+1), api.ErrHandle)
	is(t, none.Put([]api.Image{image(1, 1), image(1, 2)}, most+1), api.ErrHandle)
	is(t, none.Put(nil, most+1), api.ErrHandle)
}

func TestR2_RefusedCallsChangeNothing(t *testing.T) {
	p := paired(t, 4)
	for position := range uint64(12) {
		p.refused(api.ErrBlock, position, image(0, 9), image(1, 9), image(4, 9))
		p.refused(api.ErrForm, position, image(0, 9), image(3, 9), image(2, 9))
		p.refused(api.ErrRing, most+1, every(4, 9)...)
		if position > 0 {
			p.refused(api.ErrRing, position-1, every(4, 9)...)
		}
		if position%4 == 3 {
			p.drop(p.c.Entries()...)
		}
		p.put(position, image(int(position*7%4), byte(position)))
	}
}

func TestR3_TheImagesThatAreHandedIn(t *testing.T) {
	filler := image(77, 77)
	for _, images := range [][]api.Image{nil, {image(0, 1)}, {image(1, 1), image(3, 2)}, every(4, 3), {image(2, 1), image(1, 1)}, {image(4, 1)}} {
		for _, before := range [][]api.Image{nil, {image(1, 9)}, every(4, 20)} {
			p := paired(t, 4)
			p.put(0, before...)
			given := roomy(images, filler)
			p.put(1, given...)
			spoilAnswers(p.c)
			p.put(2, image(1, 50), image(2, 51))
			went(t, p.drop(entry(1, 50, 2), entry(2, 51, 2)), 2)
			if !keeps(given, images, filler) {
				t.Fatalf("Put has changed its images: %v", given[:cap(given)])
			}
			// From now on they are the caller's: what they were is what the cache has.
			twin := p.c.Copy()
			spoil(given, image(33, 33))
			p.tells()
			tells(t, twin, p.m)
		}
	}
}

func TestR3_TheEntriesThatAreHandedIn(t *testing.T) {
	filler := entry(77, 77, 77)
	for _, list := range [][]cache.Entry{nil, {entry(0, 1, 3)}, {entry(3, 1, 3), entry(1, 1, 3), entry(1, 1, 3), entry(9, 1, 3)}, {entry(0, 1, 2), entry(2, 1, 3)}} {
		p := paired(t, 4)
		p.put(3, every(4, 1)...)
		given := roomy(list, filler)
		p.drop(given...)
		p.put(4, every(4, 9)...)
		p.drop(entry(1, 1, 4))
		if !keeps(given, list, filler) {
			t.Fatalf("Drop has changed its entries: %v", given[:cap(given)])
		}
		spoil(given, entry(2, 33, 4))
		p.tells()
	}
}

func TestR3_EntriesOfOneCacheDroppedFromIt(t *testing.T) {
	// What Entries has told stays as it was told while it is dropped.
	p := paired(t, 5)
	p.put(1, every(5, 1)...)
	l := p.c.Entries()
	want := slices.Clone(l)
	went(t, p.drop(l...), 5)
	if !slices.Equal(l, want) {
		t.Errorf("Drop has made %v of %v", l, want)
	}
}

func TestR3_WhatIsHandedOut(t *testing.T) {
	p := paired(t, 4)
	for n, b := range []int{3, 0, 2, 1, 3} {
		spoilAnswers(p.c)
		p.tells()
		twin := p.copy()
		spoilAnswers(twin.c)
		p.tells()
		twin.tells()
		p.put(uint64(n), image(b, byte(b)))
		twin.tells()
	}
	e, _ := p.c.Get(0)
	e.Value[0], e.Position = 99, 99
	p.tells()
	spoilAnswers(p.c)
	p.tells()
}

func TestR3_AnswersShareNothing(t *testing.T) {
	p := paired(t, 4)
	p.put(1, image(1, 1), image(3, 2))
	a, b := p.c.Entries(), p.c.Entries()
	want := slices.Clone(b)
	spoil(a, entry(-99, 9, 9))
	if !slices.Equal(b, want) {
		t.Errorf("what one call has told changes what another one has told: %v", b)
	}
	// What was told stays as it was told, whatever is done behind it.
	p.put(2, every(4, 7)...)
	p.drop(p.c.Entries()[1:]...)
	p.put(3, image(3, 8))
	if !slices.Equal(b, want) {
		t.Errorf("later calls change what was told ahead of them: %v", b)
	}
	// Room behind what is told is no other answer's, and not the cache's.
	a, b = append(p.c.Entries(), entry(50, 1, 1)), append(p.c.Entries(), entry(60, 1, 1))
	if a[len(a)-1].Block != 50 || b[len(b)-1].Block != 60 {
		t.Errorf("two answers have one room behind them: %v, %v", a, b)
	}
	p.tells()
}

func TestR4_NilAndEmptyAreOne(t *testing.T) {
	for _, images := range [][]api.Image{nil, {}, make([]api.Image, 0, 5)} {
		for _, l := range [][]cache.Entry{nil, {}, make([]cache.Entry, 0, 5)} {
			c := of(t, 2)
			is(t, c.Put(images, 3), api.OK)
			is(t, c.Put(images, 3), api.ErrRing)
			went(t, c.Drop(l), 0)
			has(t, c)
			lasts(t, c, 3, true)
		}
	}
}

func TestR5_TheSameRunTwice(t *testing.T) {
	run := func() (list []cache.Entry, numbers []int) {
		r := chance(55)
		c := of(t, 30)
		for range 300 {
			e := c.Put(r.images(30+r.below(2), 8), uint64(r.below(300)))
			l := c.Entries()
			n := c.Drop(l[r.below(len(l)+1):])
			last, _ := c.Last()
			list = append(list, c.Entries()...)
			numbers = append(numbers, int(e), n, c.Len(), int(last))
		}
		return list, numbers
	}
	listA, numbersA := run()
	listB, numbersB := run()
	if !slices.Equal(listA, listB) || !slices.Equal(numbersA, numbersB) {
		t.Error("the same run answers something else")
	}
}

func TestR6_AskingChangesNothing(t *testing.T) {
	p := paired(t, 4)
	for n, b := range []int{2, 0, 3} {
		for range 3 {
			p.c.Get(b)
			p.c.Get(-1)
			p.c.Entries()
			p.c.Len()
			p.c.Last()
			p.c.All()
			p.c.Drop(nil)
			p.c.Copy().Put(every(4, 9), 99)
			p.tells()
			may(t, p.c, p.m)
		}
		p.put(uint64(n), image(b, byte(b)))
	}
}

func TestExample1(t *testing.T) {
	c := of(t, 3)
	a, b, d := byte(1), byte(2), byte(3)
	is(t, c.Put([]api.Image{image(0, a), image(2, b)}, 7), api.OK)
	is(t, c.Put([]api.Image{image(2, d)}, 9), api.OK)
	has(t, c, entry(0, a, 7), entry(2, d, 9))
	lasts(t, c, 9, true)
	is(t, c.Put([]api.Image{}, 9), api.ErrRing)
	is(t, c.Put([]api.Image{}, 10), api.OK)
	lasts(t, c, 10, true)
	is(t, c.Put([]api.Image{image(2, 8), image(0, 9)}, 11), api.ErrForm)
	is(t, c.Put([]api.Image{image(3, 8)}, 11), api.ErrBlock)
	has(t, c, entry(0, a, 7), entry(2, d, 9))
}

func TestExample2(t *testing.T) {
	c := of(t, 3)
	is(t, c.Put([]api.Image{image(0, 1), image(2, 2)}, 7), api.OK)
	is(t, c.Put([]api.Image{image(2, 3)}, 9), api.OK)
	is(t, c.Put(nil, 10), api.OK)
	l := c.Entries()
	is(t, c.Put([]api.Image{image(0, 4)}, 12), api.OK)
	went(t, c.Drop(l), 1)
	has(t, c, entry(0, 4, 12))
	lacks(t, c, 2)
	went(t, c.Drop(l), 0)
	has(t, c, entry(0, 4, 12))
}

func TestExample3(t *testing.T) {
	for _, blocks := range []int{0, 65} {
		if c, e := cache.New(blocks); c != nil || e != api.ErrInput {
			t.Errorf("New(%d) = %v, %d", blocks, c, e)
		}
	}
}
