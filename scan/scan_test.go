package scan_test

import (
	"bytes"
	"hash/crc32"
	"math"
	"slices"
	"testing"

	"wicket/api"
	"wicket/scan"
	"wicket/sector"
	"wicket/wal"
)

// most is the greatest position that may be, written as the document has it.
const most = uint64(1) << 62

// chance tells numbers that look like chance and are the same in each run.
type chance uint64

func (c *chance) next() uint64 {
	*c ^= *c << 13
	*c ^= *c >> 7
	*c ^= *c << 17
	return uint64(*c)
}

// below tells one of 0 to n - 1.
func (c *chance) below(n int) int {
	return int(c.next() % uint64(n))
}

// bytes tells n of them.
func (c *chance) bytes(n int) []byte {
	b := make([]byte, n)
	for i := range b {
		b[i] = byte(c.next())
	}
	return b
}

// value tells one of all bytes.
func (c *chance) value() api.Value {
	return api.Value(c.bytes(32))
}

// number tells n's bytes, the lowest first.
func number(n uint64, size int) []byte {
	b := make([]byte, size)
	for i := range b {
		b[i] = byte(n >> (8 * i))
	}
	return b
}

// summed tells 64 bytes: those given, zeros up to byte 59, and their sum, reckoned by another hand than the layers'.
func summed(b ...byte) []byte {
	all := make([]byte, 60)
	copy(all, b)
	return append(all, number(uint64(crc32.ChecksumIEEE(all)), 4)...)
}

// laidImage tells the 64 bytes of an image's record.
func laidImage(p uint64, block int, v api.Value) []byte {
	return summed(slices.Concat([]byte{87, 1, 0, 0}, number(p, 8), number(uint64(block), 4), v[:])...)
}

// laidCommit tells the 64 bytes of a commit's record.
func laidCommit(p uint64, images int) []byte {
	return summed(slices.Concat([]byte{87, 2, 0, 0}, number(p, 8), number(uint64(images), 4))...)
}

// laidSuper tells the 64 bytes of a superblock.
func laidSuper(c api.Config, tail, life uint64) []byte {
	parts := []byte{byte(c.Blocks), byte(c.LogCap), byte(c.MaxRes), byte(c.High), byte(c.Clients), 0, 0, 0}
	return summed(slices.Concat([]byte("WICKET\x01\x00"), parts, number(tail, 8), number(life, 8))...)
}

// turned tells bytes of which one is another one.
func turned(b []byte, at int) []byte {
	c := slices.Clone(b)
	c[at] ^= 0x55
	return c
}

// config tells a configuration of its parts, in their order.
func config(blocks, logCap, maxRes, high, clients int) api.Config {
	return api.Config{Blocks: blocks, LogCap: logCap, MaxRes: maxRes, High: high, Clients: clients}
}

// usual is the configuration of the chapter's examples.
func usual() api.Config {
	return config(3, 4, 2, 4, 1)
}

// whole tells configurations that may be: the fewest and the most blocks, slots and images among them.
func whole() []api.Config {
	return []api.Config{
		usual(),
		config(1, 2, 1, 1, 1), config(64, 2, 1, 2, 8), config(1, 64, 1, 64, 8), config(64, 64, 16, 64, 8),
		config(2, 3, 2, 1, 1), config(5, 6, 3, 6, 7), config(16, 17, 16, 17, 1), config(8, 7, 6, 3, 2), config(63, 63, 7, 9, 2),
	}
}

// lost tells configurations that may not be, by one part each.
func lost() []api.Config {
	return []api.Config{
		{},
		config(0, 4, 1, 4, 1), config(-1, 4, 1, 4, 1), config(65, 4, 2, 4, 1), config(math.MaxInt, 4, 2, 4, 1), config(math.MinInt, 4, 2, 4, 1),
		config(3, 1, 1, 1, 1), config(3, 0, 2, 4, 1), config(3, -1, 2, 4, 1), config(3, 65, 2, 4, 1), config(3, math.MaxInt, 2, 4, 1), config(3, math.MinInt, 2, 4, 1),
		config(3, 4, 0, 4, 1), config(3, 4, -1, 4, 1), config(3, 5, 4, 4, 1), config(4, 4, 4, 4, 1), config(64, 64, 17, 4, 1),
		config(3, 4, 2, 0, 1), config(3, 4, 2, 5, 1), config(3, 4, 2, -1, 1),
		config(3, 4, 2, 4, 0), config(3, 4, 2, 4, 9), config(3, 4, 2, 4, -1),
	}
}

// tails tells those at both edges, and some between.
func tails() []uint64 {
	return []uint64{0, 1, 10, 63, 64, 1 << 32, most - 65, most - 64, most - 2, most - 1, most}
}

// sectors tells how many a disk of a configuration has.
func sectors(c api.Config) int {
	return 1 + c.Blocks + c.LogCap
}

// sectorOf tells where a position's record stands, as the document has it.
func sectorOf(c api.Config, p uint64) int {
	return 1 + c.Blocks + int(p%uint64(c.LogCap))
}

// blank tells a disk of zeros.
func blank(t *testing.T, n int) *sector.Disk {
	t.Helper()
	d, e := sector.New(n)
	if d == nil || e != api.OK {
		t.Fatalf("sector.New(%d): %d", n, e)
	}
	return d
}

// wrote does a write that is taken.
func wrote(t *testing.T, d *sector.Disk, n int, b []byte) {
	t.Helper()
	if e := d.Write(n, b); e != api.OK {
		t.Fatalf("Write(%d, %d bytes): %d", n, len(b), e)
	}
}

// disk tells one of a configuration whose superblock says that tail and life, durable; its log is zeros.
func disk(t *testing.T, c api.Config, tail, life uint64) *sector.Disk {
	t.Helper()
	d := blank(t, sectors(c))
	wrote(t, d, 0, laidSuper(c, tail, life))
	d.Flush()
	return d
}

// laid writes these bytes into the slots of p, p + 1, ..
func laid(t *testing.T, d *sector.Disk, c api.Config, p uint64, slots ...[]byte) {
	t.Helper()
	for i, b := range slots {
		wrote(t, d, sectorOf(c, p+uint64(i)), b)
	}
}

// told is all that a disk tells, to be held against later.
type told struct {
	image   []byte
	waiting []sector.Write
}

func tells(d *sector.Disk) told {
	return told{d.Image(), d.Waiting()}
}

// same tells whether two disks have told the same.
func (a told) same(b told) bool {
	return bytes.Equal(a.image, b.image) && slices.EqualFunc(a.waiting, b.waiting, func(x, y sector.Write) bool {
		return x.Sector == y.Sector && bytes.Equal(x.Data, y.Data)
	})
}

// newest tells all sectors as a reader sees them: what waits is laid over what is durable.
func (a told) newest() []byte {
	all := slices.Clone(a.image)
	for _, w := range a.waiting {
		copy(all[64*w.Sector:], w.Data)
	}
	return all
}

// same tells whether two logs are, lists without elements being one.
func same(a, b scan.Log) bool {
	return a.Tail == b.Tail && a.Life == b.Life && a.End == b.End && slices.EqualFunc(a.Txs, b.Txs, func(x, y scan.Tx) bool {
		return x.Position == y.Position && slices.Equal(x.Images, y.Images)
	})
}

// says tells what a disk's log says by the chapter's words, with a layout of the tests' own: a slot is held against the bytes that would have to stand there.
func says(d *sector.Disk, c api.Config, tail, life uint64) scan.Log {
	all := tells(d).newest()
	log := scan.Log{Tail: tail, Life: life, End: tail}
	var come []api.Image
	for n := range uint64(c.LogCap) {
		p := tail + n
		b := all[64*sectorOf(c, p):][:64]
		if p > most {
			return log
		}
		if bytes.Equal(b, laidCommit(p, len(come))) {
			log.Txs = append(log.Txs, scan.Tx{Position: p, Images: come})
			log.End = p + 1
			come = nil
			continue
		}
		i := api.Image{Block: int(b[12]), Value: api.Value(b[16:48])}
		rises := len(come) == 0 || come[len(come)-1].Block < i.Block
		if !bytes.Equal(b, laidImage(p, i.Block, i.Value)) || i.Block >= c.Blocks || !rises || len(come) == c.MaxRes {
			return log
		}
		come = append(come, i)
	}
	return log
}

// reads fails, if Read does not answer just this, or changes the disk.
func reads(t *testing.T, d *sector.Disk, c api.Config, want scan.Log) {
	t.Helper()
	was := tells(d)
	if got, e := scan.Read(d, c); e != api.OK || !same(got, want) {
		t.Fatalf("Read(%+v): %+v, %d, want %+v", c, got, e, want)
	}
	if !tells(d).same(was) {
		t.Fatalf("Read(%+v) has changed the disk", c)
	}
}

// finds fails, if Read does not find commits at just these positions, with the end behind the last of them; it tells what Read has.
func finds(t *testing.T, d *sector.Disk, c api.Config, tail uint64, positions ...uint64) []scan.Tx {
	t.Helper()
	was := tells(d)
	got, e := scan.Read(d, c)
	end := tail
	var list []uint64
	for _, tx := range got.Txs {
		list = append(list, tx.Position)
		end = tx.Position + 1
	}
	if e != api.OK || got.Tail != tail || got.End != end || !slices.Equal(list, positions) {
		t.Fatalf("Read(%+v): %+v, %d, want tail %d, commits at %d", c, got, e, tail, positions)
	}
	if !tells(d).same(was) {
		t.Fatalf("Read(%+v) has changed the disk", c)
	}
	return got.Txs
}

// refused fails, if Read does not answer this error alone, or changes the disk.
func refused(t *testing.T, d *sector.Disk, c api.Config, want api.Errno) {
	t.Helper()
	was := tells(d)
	got, e := scan.Read(d, c)
	if e != want || !same(got, scan.Log{}) {
		t.Fatalf("Read(%d sectors, %+v): %+v, %d, want error %d", d.Len(), c, got, e, want)
	}
	if !tells(d).same(was) {
		t.Fatalf("Read(%d sectors, %+v) was refused and has changed the disk", d.Len(), c)
	}
}

// noRecords tells bytes of which none is a record that stands at p.
func noRecords(c api.Config, p uint64) [][]byte {
	right := laidCommit(p, 0)
	slots := uint64(c.LogCap)
	list := [][]byte{
		make([]byte, 64), bytes.Repeat([]byte{255}, 64), laidSuper(c, p, 1), turned(right, 60),
		summed(append([]byte{86}, right[1:60]...)...), summed(append([]byte{87, 0}, right[2:60]...)...), summed(append([]byte{87, 3}, right[2:60]...)...),
		laidCommit(p+1, 0), laidCommit(p-1, 0), laidCommit(p+slots, 0), laidCommit(p-slots, 0), laidCommit(p+2*slots, 0), laidCommit(p^1<<32, 0),
		laidImage(p+1, 0, api.Value{1}), laidImage(p-1, 0, api.Value{1}), laidImage(p+slots, 0, api.Value{1}), laidImage(p-slots, 0, api.Value{1}),
		laidImage(p, c.Blocks, api.Value{1}), laidImage(p, 64, api.Value{1}), laidImage(p, 255, api.Value{1}), laidImage(p, 256, api.Value{1}), laidImage(p, -1, api.Value{1}),
		laidCommit(p, 17), laidCommit(p, 256), laidCommit(p, -1),
	}
	for at := range 64 {
		list = append(list, turned(right, at), turned(laidImage(p, 0, api.Value{7}), at))
	}
	return list
}

func TestP10_1_WhereNoRecordStandsTheLookingEnds(t *testing.T) {
	for _, c := range whole() {
		for _, tail := range []uint64{1, 10, most - 64} {
			for _, b := range noRecords(c, tail+1) {
				d := disk(t, c, tail, 3)
				laid(t, d, c, tail, laidCommit(tail, 0), b, laidCommit(tail+2, 0))
				// In a log of two slots the third one takes the first one's place.
				if c.LogCap == 2 {
					laid(t, d, c, tail, laidCommit(tail, 0))
				}
				finds(t, d, c, tail, tail)
			}
		}
	}
}

func TestP10_1_TheFirstSlotToo(t *testing.T) {
	for _, c := range whole() {
		for _, tail := range tails() {
			for _, b := range noRecords(c, tail) {
				d := disk(t, c, tail, 3)
				laid(t, d, c, tail, b, laidCommit(tail+1, 0))
				finds(t, d, c, tail)
			}
		}
	}
}

func TestP10_1_TheLastBlockStandsAndTheNextOneDoesNot(t *testing.T) {
	for _, c := range whole() {
		for block := range 70 {
			d := disk(t, c, 5, 1)
			laid(t, d, c, 5, laidImage(5, block, api.Value{1}), laidCommit(6, 1))
			if block >= c.Blocks {
				finds(t, d, c, 5)
				continue
			}
			if txs := finds(t, d, c, 5, 6); !slices.Equal(txs[0].Images, []api.Image{{Block: block, Value: api.Value{1}}}) {
				t.Fatalf("%+v: %+v", c, txs)
			}
		}
	}
}

func TestP10_1_WaitingAndDurable(t *testing.T) {
	c := usual()
	for n := range 8 {
		d := disk(t, c, 10, 2)
		slots := [][]byte{laidImage(10, 0, api.Value{1}), laidImage(11, 2, api.Value{2}), laidCommit(12, 2)}
		// Of the three records those whose bit is set are durable ahead of the others.
		for i, b := range slots {
			if n>>i&1 == 1 {
				laid(t, d, c, 10+uint64(i), b)
			}
		}
		d.Flush()
		for i, b := range slots {
			if n>>i&1 == 0 {
				laid(t, d, c, 10+uint64(i), b)
			}
		}
		finds(t, d, c, 10, 12)
		d.Crash()
		if n == 7 {
			finds(t, d, c, 10, 12)
		} else {
			finds(t, d, c, 10)
		}
	}
}

func TestP10_1_AWaitingRecordOverADurableOne(t *testing.T) {
	c := usual()
	d := disk(t, c, 10, 2)
	laid(t, d, c, 10, laidImage(10, 0, api.Value{1}), laidCommit(11, 1))
	d.Flush()
	laid(t, d, c, 10, laidImage(10, 0, api.Value{2}))
	if txs := finds(t, d, c, 10, 11); txs[0].Images[0].Value != (api.Value{2}) {
		t.Errorf("the durable image is told: %+v", txs)
	}
	laid(t, d, c, 10, laidImage(10, 1, api.Value{3}))
	if txs := finds(t, d, c, 10, 11); txs[0].Images[0] != (api.Image{Block: 1, Value: api.Value{3}}) {
		t.Errorf("an older image is told: %+v", txs)
	}
	laid(t, d, c, 11, make([]byte, 64))
	finds(t, d, c, 10)
	laid(t, d, c, 11, laidCommit(11, 1))
	finds(t, d, c, 10, 11)
	laid(t, d, c, 10, laidImage(14, 0, api.Value{4}))
	finds(t, d, c, 10)
	d.Crash()
	if txs := finds(t, d, c, 10, 11); txs[0].Images[0].Value != (api.Value{1}) {
		t.Errorf("a lost image is told: %+v", txs)
	}
}

func TestP10_2_AWaitingSuperblockCounts(t *testing.T) {
	c := usual()
	d := disk(t, c, 10, 2)
	laid(t, d, c, 10, laidCommit(10, 0), laidCommit(11, 0), laidCommit(12, 0))
	finds(t, d, c, 10, 10, 11, 12)
	wrote(t, d, 0, laidSuper(c, 12, 9))
	reads(t, d, c, scan.Log{Tail: 12, Life: 9, End: 13, Txs: []scan.Tx{{Position: 12}}})
	wrote(t, d, 0, make([]byte, 64))
	refused(t, d, c, api.ErrSuper)
	d.Crash(0, 1, 2)
	reads(t, d, c, scan.Log{Tail: 10, Life: 2, End: 13, Txs: []scan.Tx{{Position: 10}, {Position: 11}, {Position: 12}}})
}

// others tells configurations that may be, of a disk as long, that are another one by one or two parts.
func others(c api.Config) []api.Config {
	var list []api.Config
	for blocks := max(1, c.Blocks-3); blocks <= min(64, c.Blocks+3); blocks++ {
		for _, maxRes := range []int{c.MaxRes - 1, c.MaxRes, c.MaxRes + 1} {
			for _, high := range []int{1, c.High - 1, c.High, c.High + 1} {
				for _, clients := range []int{c.Clients - 1, c.Clients, c.Clients + 1} {
					o := config(blocks, c.Blocks+c.LogCap-blocks, maxRes, high, clients)
					if o != c && mayBe(o) {
						list = append(list, o)
					}
				}
			}
		}
	}
	return list
}

// mayBe tells whether a configuration is one, by the document's words.
func mayBe(c api.Config) bool {
	in := func(n, low, high int) bool { return low <= n && n <= high }
	return in(c.Blocks, 1, 64) && in(c.LogCap, 2, 64) && in(c.MaxRes, 1, min(16, c.Blocks, c.LogCap-1)) && in(c.High, 1, c.LogCap) && in(c.Clients, 1, 8)
}

// badSupers tells bytes that no superblock has.
func badSupers(c api.Config) [][]byte {
	right := laidSuper(c, 10, 2)
	list := [][]byte{
		make([]byte, 64), bytes.Repeat([]byte{255}, 64), laidCommit(10, 0),
		laidSuper(c, 10, 0), laidSuper(c, most+1, 1), laidSuper(c, 10, most+1), laidSuper(c, math.MaxUint64, math.MaxUint64),
		laidSuper(config(0, 4, 1, 4, 1), 10, 2), laidSuper(config(c.Blocks, c.LogCap, c.MaxRes, c.High, 9), 10, 2), laidSuper(config(c.Blocks, c.LogCap, c.MaxRes, 0, c.Clients), 10, 2),
	}
	for at := range 64 {
		list = append(list, turned(right, at))
	}
	return list
}

func TestP10_2_ErrorsInTheirOrder(t *testing.T) {
	for _, c := range lost() {
		refused(t, nil, c, api.ErrHandle)
		for _, n := range []int{1, 7, 8, 9} {
			refused(t, blank(t, n), c, api.ErrConfig)
		}
		refused(t, disk(t, usual(), 10, 2), c, api.ErrConfig)
	}
	for _, c := range whole() {
		refused(t, nil, c, api.ErrHandle)
		for _, n := range []int{1, sectors(c) - 1, sectors(c) + 1, 4096} {
			d := blank(t, n)
			refused(t, d, c, api.ErrSector)
			for _, b := range append(badSupers(c), laidSuper(c, 10, 2), laidSuper(others(c)[0], 10, 2)) {
				wrote(t, d, 0, b)
				refused(t, d, c, api.ErrSector)
			}
		}
		for _, b := range badSupers(c) {
			d := disk(t, c, 10, 2)
			laid(t, d, c, 10, laidCommit(10, 0))
			wrote(t, d, 0, b)
			refused(t, d, c, api.ErrSuper)
			d.Flush()
			refused(t, d, c, api.ErrSuper)
		}
		for _, o := range others(c) {
			d := disk(t, o, 10, 2)
			laid(t, d, c, 10, laidCommit(10, 0))
			refused(t, d, c, api.ErrConfig)
			finds(t, disk(t, o, 10, 2), o, 10)
			// A turned superblock of another configuration is no superblock.
			wrote(t, d, 0, turned(laidSuper(o, 10, 2), 40))
			refused(t, d, c, api.ErrSuper)
		}
	}
}

func TestP10_2_ASuperblockOfAnotherLengthThanItsDisk(t *testing.T) {
	c := usual()
	d := blank(t, sectors(c))
	wrote(t, d, 0, laidSuper(config(3, 5, 2, 4, 1), 10, 2))
	refused(t, d, c, api.ErrConfig)
	refused(t, d, config(3, 5, 2, 4, 1), api.ErrSector)
}

func TestP10_2_TailAndLifeAsTheSuperblockSays(t *testing.T) {
	for _, c := range whole() {
		for _, tail := range tails() {
			for _, life := range []uint64{1, 2, most - 1, most} {
				reads(t, disk(t, c, tail, life), c, scan.Log{Tail: tail, Life: life, End: tail})
			}
		}
	}
}

func TestP10_2_FullToTheLastSlot(t *testing.T) {
	for _, c := range whole() {
		for _, tail := range tails() {
			d := disk(t, c, tail, 1)
			want := scan.Log{Tail: tail, Life: 1, End: tail}
			for n := range uint64(c.LogCap) {
				laid(t, d, c, tail+n, laidCommit(tail+n, 0))
				// Beyond the greatest position there is no record.
				if tail+n <= most {
					want.Txs = append(want.Txs, scan.Tx{Position: tail + n})
					want.End = tail + n + 1
				}
				reads(t, d, c, want)
			}
			last := tail + uint64(c.LogCap) - 1
			laid(t, d, c, last, laidImage(last, 0, api.Value{1}))
			if last <= most {
				want.Txs, want.End = want.Txs[:c.LogCap-1], last
			}
			reads(t, d, c, want)
		}
	}
}

func TestP10_2_TheLastPositions(t *testing.T) {
	c := usual()
	d := disk(t, c, most-1, 1)
	laid(t, d, c, most-1, laidImage(most-1, 1, api.Value{1}), laidCommit(most, 1), laidCommit(most+1, 0))
	finds(t, d, c, most-1, most)
	d = disk(t, c, most, 1)
	laid(t, d, c, most, laidImage(most, 1, api.Value{1}), laidCommit(most+1, 1))
	finds(t, d, c, most)
	laid(t, d, c, most, laidCommit(most, 0))
	reads(t, d, c, scan.Log{Tail: most, Life: 1, End: most + 1, Txs: []scan.Tx{{Position: most}}})
}

func TestP10_2_BlocksRiseWithinATransaction(t *testing.T) {
	c := config(64, 8, 4, 8, 1)
	numbers := []int{0, 1, 2, 30, 31, 32, 62, 63}
	for _, first := range numbers {
		for _, second := range numbers {
			d := disk(t, c, 6, 1)
			laid(t, d, c, 6, laidCommit(6, 0), laidImage(7, first, api.Value{1}), laidImage(8, second, api.Value{2}), laidCommit(9, 2))
			if second <= first {
				finds(t, d, c, 6, 6)
				// As few images as have come do not help: the looking has ended.
				laid(t, d, c, 9, laidCommit(9, 1))
				finds(t, d, c, 6, 6)
				continue
			}
			txs := finds(t, d, c, 6, 6, 9)
			if want := []api.Image{{Block: first, Value: api.Value{1}}, {Block: second, Value: api.Value{2}}}; !slices.Equal(txs[1].Images, want) {
				t.Fatalf("images %v, want %v", txs[1].Images, want)
			}
		}
	}
}

func TestP10_2_AnyBlockBehindACommit(t *testing.T) {
	c := config(64, 8, 4, 8, 1)
	for _, first := range []int{0, 1, 31, 63} {
		for _, second := range []int{0, 1, 31, 63} {
			d := disk(t, c, 6, 1)
			laid(t, d, c, 6, laidImage(6, first, api.Value{1}), laidCommit(7, 1), laidImage(8, second, api.Value{2}), laidCommit(9, 1))
			txs := finds(t, d, c, 6, 7, 9)
			if txs[0].Images[0].Block != first || txs[1].Images[0].Block != second {
				t.Fatalf("%d, %d: %+v", first, second, txs)
			}
		}
	}
}

func TestP10_2_MaxResImagesAndOneMore(t *testing.T) {
	for _, c := range append(whole(), config(17, 20, 16, 1, 1), config(64, 64, 1, 1, 1), config(9, 12, 4, 1, 1)) {
		for _, n := range []int{c.MaxRes - 1, c.MaxRes, c.MaxRes + 1} {
			// One more needs a block and a slot of its own.
			if n > c.Blocks || n+1 > c.LogCap {
				continue
			}
			d := disk(t, c, 9, 1)
			var want []api.Image
			for i := range n {
				p := 9 + uint64(i)
				laid(t, d, c, p, laidImage(p, i, api.Value{byte(i + 1)}))
				want = append(want, api.Image{Block: i, Value: api.Value{byte(i + 1)}})
			}
			last := 9 + uint64(n)
			laid(t, d, c, last, laidCommit(last, n))
			if n > c.MaxRes {
				finds(t, d, c, 9)
				laid(t, d, c, last, laidCommit(last, c.MaxRes))
				finds(t, d, c, 9)
				continue
			}
			if txs := finds(t, d, c, 9, last); !slices.Equal(txs[0].Images, want) {
				t.Fatalf("%+v: %+v", c, txs)
			}
		}
	}
}

func TestP10_2_WhatACommitSays(t *testing.T) {
	c := config(8, 16, 6, 8, 1)
	for come := range 7 {
		for said := range 20 {
			d := disk(t, c, 30, 1)
			for i := range come {
				p := 30 + uint64(i)
				laid(t, d, c, p, laidImage(p, i, api.Value{1}))
			}
			last := 30 + uint64(come)
			laid(t, d, c, last, laidCommit(last, said), laidCommit(last+1, 0), laidCommit(last+2, come))
			switch {
			case said != come:
				finds(t, d, c, 30)
			case come == 0:
				finds(t, d, c, 30, last, last+1, last+2)
			default:
				// Behind the commit none have come: that which says as many again ends the looking.
				finds(t, d, c, 30, last, last+1)
			}
		}
	}
}

func TestP10_2_AnOpenTransactionIsNotFound(t *testing.T) {
	c := config(8, 16, 6, 8, 1)
	d := disk(t, c, 30, 1)
	laid(t, d, c, 30, laidCommit(30, 0), laidImage(31, 2, api.Value{1}), laidCommit(32, 1), laidImage(33, 1, api.Value{2}), laidImage(34, 5, api.Value{3}))
	reads(t, d, c, scan.Log{Tail: 30, Life: 1, End: 33, Txs: []scan.Tx{{Position: 30}, {Position: 32, Images: []api.Image{{Block: 2, Value: api.Value{1}}}}}})
}

func TestP10_2_RoundTheEndOfTheSlots(t *testing.T) {
	c := config(8, 5, 4, 5, 1)
	for tail := uint64(20); tail < 26; tail++ {
		d := disk(t, c, tail, 1)
		laid(t, d, c, tail, laidImage(tail, 0, api.Value{1}), laidImage(tail+1, 3, api.Value{2}), laidImage(tail+2, 7, api.Value{3}), laidCommit(tail+3, 3), laidCommit(tail+4, 0))
		txs := finds(t, d, c, tail, tail+3, tail+4)
		if want := []api.Image{{Block: 0, Value: api.Value{1}}, {Block: 3, Value: api.Value{2}}, {Block: 7, Value: api.Value{3}}}; !slices.Equal(txs[0].Images, want) || len(txs[1].Images) != 0 {
			t.Fatalf("from %d: %+v", tail, txs)
		}
	}
}

// randomSlot tells bytes for a position: mostly such as let the looking go on, with come images so far, the last one's block being last.
func randomSlot(ch *chance, c api.Config, p uint64, come, last int) []byte {
	switch ch.below(16) {
	case 0:
		list := noRecords(c, p)
		return list[ch.below(len(list))]
	case 1:
		return laidImage(p, ch.below(c.Blocks+2), ch.value())
	case 2:
		return laidCommit(p, ch.below(come+2))
	case 3, 4, 5, 6:
		return laidCommit(p, come)
	}
	if last+1 >= c.Blocks || come == c.MaxRes {
		return laidCommit(p, come)
	}
	return laidImage(p, last+1+ch.below(min(3, c.Blocks-last-1)), ch.value())
}

// randomDisk tells one whose slots have such bytes; some of the writes wait, others are laid over older ones.
func randomDisk(t *testing.T, ch *chance, c api.Config, tail, life uint64) *sector.Disk {
	d := disk(t, c, tail, life)
	come, last := 0, -1
	for n := range uint64(c.LogCap) {
		p := tail + n
		b := randomSlot(ch, c, p, come, last)
		if ch.below(3) == 0 {
			laid(t, d, c, p, randomSlot(ch, c, p, come, last))
		}
		if ch.below(4) == 0 {
			d.Flush()
		}
		laid(t, d, c, p, b)
		come, last = come+1, int(b[12])
		if b[1] == 2 {
			come, last = 0, -1
		}
	}
	return d
}

func TestP10_2_And_P10_7_AllKindsOfLogs(t *testing.T) {
	ch := chance(0x5ca1ab1e)
	found := 0
	for range 400 {
		for _, c := range whole() {
			tail := tails()[ch.below(len(tails()))]
			life := 1 + ch.next()%most
			d := randomDisk(t, &ch, c, tail, life)
			want := says(d, c, tail, life)
			reads(t, d, c, want)
			got, _ := scan.Read(d, c)
			found += len(got.Txs)
			bounded(t, got, c)
		}
	}
	if found < 5000 {
		t.Errorf("only %d transactions in all these logs", found)
	}
}

// bounded fails, if what was read is not as P10.7 has it.
func bounded(t *testing.T, l scan.Log, c api.Config) {
	t.Helper()
	if len(l.Txs) > c.LogCap || l.End < l.Tail || l.End > l.Tail+uint64(c.LogCap) {
		t.Fatalf("%+v: %d transactions, tail %d, end %d", c, len(l.Txs), l.Tail, l.End)
	}
	next := l.Tail
	for _, tx := range l.Txs {
		if tx.Position != next+uint64(len(tx.Images)) || len(tx.Images) > c.MaxRes {
			t.Fatalf("%+v: a commit at %d with %d images, behind %d", c, tx.Position, len(tx.Images), next)
		}
		next = tx.Position + 1
	}
	if l.End != next {
		t.Fatalf("%+v: end %d, want %d", c, l.End, next)
	}
}

// written is a log that package wal has written, with what was written into it.
type written struct {
	log  *wal.Log
	disk *sector.Disk
	want scan.Log // what Read is to tell
	open []api.Image
}

// opens opens a log on a disk whose superblock says its tail.
func opens(t *testing.T, c api.Config, tail, life uint64) *written {
	t.Helper()
	d := disk(t, c, tail, life)
	l, e := wal.Open(d, c, tail, life)
	if e != api.OK {
		t.Fatalf("wal.Open(%+v, %d, %d): %d", c, tail, life, e)
	}
	return &written{log: l, disk: d, want: scan.Log{Tail: tail, Life: life, End: tail}}
}

// step writes an image or a commit, or is refused.
func (w *written) step(ch *chance, c api.Config) {
	if ch.below(3) > 0 {
		i := api.Image{Block: ch.below(c.Blocks+2) - 1, Value: ch.value()}
		if n := len(w.open); n > 0 && ch.below(2) == 0 {
			i.Block = w.open[n-1].Block + 1
		}
		if _, e := w.log.Image(i.Block, i.Value); e == api.OK {
			w.open = append(w.open, i)
		}
		return
	}
	if p, e := w.log.Commit(); e == api.OK {
		w.want.Txs = append(w.want.Txs, scan.Tx{Position: p, Images: w.open})
		w.want.End = p + 1
		w.open = nil
	}
}

// fill writes so many steps.
func (w *written) fill(ch *chance, c api.Config, steps int) {
	for range steps {
		w.step(ch, c)
	}
}

func TestP10_4_LogsThatWereWritten(t *testing.T) {
	ch := chance(0xfeed)
	full := 0
	for round := range 60 {
		for _, c := range whole() {
			for _, tail := range []uint64{0, 1, uint64(c.LogCap) - 1, most - 65, most - 1, most} {
				w := opens(t, c, tail, 1+ch.next()%most)
				reads(t, w.disk, c, w.want)
				for range 1 + ch.below(2*c.LogCap) {
					w.step(&ch, c)
					if round < 3 {
						reads(t, w.disk, c, w.want)
					}
					if ch.below(20) == 0 {
						w.disk.Flush()
					}
				}
				if w.log.Used() == c.LogCap {
					full++
				}
				reads(t, w.disk, c, w.want)
				w.disk.Flush()
				reads(t, w.disk, c, w.want)
			}
		}
	}
	if full < 100 {
		t.Errorf("only %d of the logs were full", full)
	}
}

func TestP10_4_ForeignRecordsStoodThereBefore(t *testing.T) {
	ch := chance(0xabcd)
	for range 100 {
		for _, c := range whole() {
			tail := uint64(1000 + ch.below(100))
			w := opens(t, c, tail, 2)
			for n := range uint64(c.LogCap) {
				// Records of the laps ahead, as an earlier life has left them.
				p := tail + n - uint64(c.LogCap*(1+ch.below(3)))
				wrote(t, w.disk, sectorOf(c, p), [][]byte{laidCommit(p, 0), laidCommit(p, 1), laidImage(p, 0, ch.value())}[ch.below(3)])
			}
			reads(t, w.disk, c, w.want)
			w.fill(&ch, c, 1+ch.below(2*c.LogCap))
			reads(t, w.disk, c, w.want)
		}
	}
}

func TestP10_4_LogsThatGoRoundBehindMarks(t *testing.T) {
	ch := chance(0x777)
	for range 40 {
		for _, c := range whole() {
			w := opens(t, c, uint64(ch.below(200)), 4)
			for range 6 * c.LogCap {
				w.step(&ch, c)
				// Only behind a commit: a mark in the midst of a transaction hides what is left of it.
				if len(w.open) > 0 || ch.below(4) > 0 || len(w.want.Txs) == 0 {
					continue
				}
				n := ch.below(len(w.want.Txs)) + 1
				w.want.Tail = w.want.Txs[n-1].Position + 1
				w.want.Txs = slices.Clone(w.want.Txs[n:])
				if e := w.log.Mark(w.want.Tail); e != api.OK {
					t.Fatal(e)
				}
				reads(t, w.disk, c, w.want)
				if _, e := w.log.Free(); e != api.OK {
					t.Fatal(e)
				}
				reads(t, w.disk, c, w.want)
			}
			reads(t, w.disk, c, w.want)
		}
	}
}

func TestP10_4_AMarkInTheMidst(t *testing.T) {
	c := config(8, 8, 4, 8, 1)
	w := opens(t, c, 40, 1)
	for _, b := range []int{1, 4, 6} {
		if _, e := w.log.Image(b, api.Value{byte(b)}); e != api.OK {
			t.Fatal(e)
		}
	}
	w.log.Commit()
	w.log.Commit()
	finds(t, w.disk, c, 40, 43, 44)
	for tail, list := range map[uint64][]uint64{41: nil, 42: nil, 43: nil, 44: {44}, 45: nil} {
		if e := w.log.Mark(tail); e != api.OK {
			t.Fatal(e)
		}
		finds(t, w.disk, c, tail, list...)
	}
}

// ahead tells what is left of a log's transactions, if only those count whose commits stand ahead of a position.
func ahead(l scan.Log, p uint64) scan.Log {
	left := scan.Log{Tail: l.Tail, Life: l.Life, End: l.Tail}
	for _, tx := range l.Txs {
		if tx.Position < p {
			left.Txs = append(left.Txs, tx)
			left.End = tx.Position + 1
		}
	}
	return left
}

// spoilt tells a disk on which one sector has other bytes; they wait, or are durable.
func spoilt(t *testing.T, ch *chance, d *sector.Disk, n int, b []byte) *sector.Disk {
	t.Helper()
	twin := d.Copy()
	wrote(t, twin, n, b)
	if ch.below(2) == 0 {
		twin.Flush()
	}
	return twin
}

func TestP10_5_EachSlotSpoiltInTurn(t *testing.T) {
	ch := chance(0x1234567)
	for range 2 {
		for _, c := range whole() {
			for _, tail := range []uint64{0, uint64(c.LogCap) - 1, 100, most - 64} {
				w := opens(t, c, tail, 1)
				w.fill(&ch, c, 1+ch.below(3*c.LogCap))
				for p := tail; p < w.log.End(); p++ {
					eachSpoil(t, &ch, c, w, p)
				}
			}
		}
	}
}

// eachSpoil spoils the slot of a position in all the ways that the chapter names.
func eachSpoil(t *testing.T, ch *chance, c api.Config, w *written, p uint64) {
	t.Helper()
	n := sectorOf(c, p)
	right := tells(w.disk).newest()[64*n:][:64]
	want := ahead(w.want, p)
	for range 4 {
		b := slices.Clone(right)
		at := ch.below(61)
		for i := range 4 {
			b[at+i] ^= byte(ch.next())
		}
		if !bytes.Equal(b, right) {
			reads(t, spoilt(t, ch, w.disk, n, b), c, want)
		}
	}
	reads(t, spoilt(t, ch, w.disk, n, turned(right, ch.below(64))), c, want)
	reads(t, spoilt(t, ch, w.disk, n, make([]byte, 64)), c, want)
	for _, other := range []uint64{p + 1, p - 1, p + uint64(c.LogCap), p - uint64(c.LogCap), p ^ 1<<40, w.want.Tail - 1, w.log.End()} {
		if other == p {
			continue
		}
		reads(t, spoilt(t, ch, w.disk, n, laidCommit(other, 0)), c, want)
		reads(t, spoilt(t, ch, w.disk, n, laidCommit(other, int(right[12])&15)), c, want)
		reads(t, spoilt(t, ch, w.disk, n, laidImage(other, int(right[12]), ch.value())), c, want)
	}
	for range 5 {
		q := w.want.Tail + uint64(ch.below(w.log.Used()))
		if q != p {
			from := 64 * sectorOf(c, q)
			reads(t, spoilt(t, ch, w.disk, n, tells(w.disk).newest()[from:][:64]), c, want)
		}
	}
}

func TestP10_5_EveryByteOfEverySlot(t *testing.T) {
	c := config(8, 9, 4, 9, 1)
	ch := chance(99)
	w := opens(t, c, 4, 1)
	w.fill(&ch, c, 100)
	if w.log.Used() != 9 || len(w.want.Txs) < 2 {
		t.Fatalf("a log of %d records, %d transactions", w.log.Used(), len(w.want.Txs))
	}
	for p := w.want.Tail; p < w.log.End(); p++ {
		right := tells(w.disk).newest()[64*sectorOf(c, p):][:64]
		for at := range 64 {
			for _, mask := range []byte{1, 2, 4, 8, 16, 32, 64, 128, 255} {
				b := slices.Clone(right)
				b[at] ^= mask
				reads(t, spoilt(t, &ch, w.disk, sectorOf(c, p), b), c, ahead(w.want, p))
			}
		}
	}
}

func TestP10_6_HomesDoNotMatter(t *testing.T) {
	ch := chance(0x600d)
	for range 20 {
		for _, c := range whole() {
			w := opens(t, c, uint64(ch.below(100)), 1)
			w.fill(&ch, c, 1+ch.below(2*c.LogCap))
			for b := range c.Blocks {
				laid := ch.bytes(64)
				if ch.below(3) == 0 {
					laid = laidCommit(w.log.End(), 0)
				}
				wrote(t, w.disk, 1+b, laid)
			}
			reads(t, w.disk, c, w.want)
			w.disk.Flush()
			reads(t, w.disk, c, w.want)
		}
	}
}

func TestP10_6_SlotsBehindTheEndOfTheLookingDoNotMatter(t *testing.T) {
	ch := chance(0xdeadbeef)
	for range 60 {
		for _, c := range whole() {
			tail := uint64(ch.below(100))
			stop := tail + uint64(ch.below(c.LogCap))
			d := disk(t, c, tail, 1)
			want := scan.Log{Tail: tail, Life: 1, End: tail}
			for p := tail; p < stop; p++ {
				laid(t, d, c, p, laidCommit(p, 0))
				want.Txs = append(want.Txs, scan.Tx{Position: p})
				want.End = p + 1
			}
			for p := stop + 1; p < tail+uint64(c.LogCap); p++ {
				laid(t, d, c, p, [][]byte{ch.bytes(64), laidCommit(p, 0), laidCommit(p, 1), laidImage(p, 0, ch.value()), laidCommit(stop, 0)}[ch.below(5)])
			}
			reads(t, d, c, want)
		}
	}
}

func TestP10_6_AskedAgainTheSame(t *testing.T) {
	ch := chance(0x42)
	for range 60 {
		for _, c := range whole() {
			d := randomDisk(t, &ch, c, 77, 5)
			want := says(d, c, 77, 5)
			was := tells(d)
			for range 3 {
				reads(t, d, c, want)
			}
			refused(t, d, others(c)[0], api.ErrConfig)
			refused(t, d, api.Config{}, api.ErrConfig)
			reads(t, d, c, want)
			if !tells(d).same(was) {
				t.Fatal("the disk has changed")
			}
		}
	}
}

// scribble writes over all that a log has handed out, and behind it, as far as there is room.
func scribble(l scan.Log) {
	for i := range l.Txs {
		images := l.Txs[i].Images[:cap(l.Txs[i].Images)]
		for j := range images {
			images[j] = api.Image{Block: -7, Value: api.Value{0xee}}
		}
		l.Txs[i].Images = append(l.Txs[i].Images[:0], api.Image{Block: -8}, api.Image{Block: -9})
	}
	txs := l.Txs[:cap(l.Txs)]
	for i := range txs {
		txs[i] = scan.Tx{Position: 1 << 63, Images: []api.Image{{Block: -1}}}
	}
}

// clone tells a log with memory of its own.
func clone(l scan.Log) scan.Log {
	l.Txs = slices.Clone(l.Txs)
	for i := range l.Txs {
		l.Txs[i].Images = slices.Clone(l.Txs[i].Images)
	}
	return l
}

func TestR3_WhatReadHandsOutIsNew(t *testing.T) {
	ch := chance(0x9999)
	for range 40 {
		for _, c := range whole() {
			d := randomDisk(t, &ch, c, 500, 5)
			want := says(d, c, 500, 5)
			was := tells(d)
			first, _ := scan.Read(d, c)
			second, _ := scan.Read(d, c)
			scribble(first)
			if !same(second, want) || !tells(d).same(was) {
				t.Fatalf("one answer's memory is another's, or the disk's: %+v, want %+v", second, want)
			}
			reads(t, d, c, want)
		}
	}
}

func TestR3_NoTwoListsShareMemory(t *testing.T) {
	ch := chance(0x31337)
	for range 40 {
		for _, c := range whole() {
			d := randomDisk(t, &ch, c, 500, 5)
			l, _ := scan.Read(d, c)
			want := clone(l)
			for i := range l.Txs {
				images := l.Txs[i].Images
				for range 4 {
					images = append(images, api.Image{Block: -5})
				}
				for j := range images {
					images[j] = api.Image{Block: -6}
				}
				for k := range l.Txs {
					if k > i && !slices.Equal(l.Txs[k].Images, want.Txs[k].Images) {
						t.Fatalf("the images of %d are written over by those of %d", l.Txs[k].Position, l.Txs[i].Position)
					}
				}
			}
			// And the other way round: what is written behind an earlier list's end is no later one's.
			l, _ = scan.Read(d, c)
			for i := len(l.Txs) - 1; i >= 0; i-- {
				images := l.Txs[i].Images[:cap(l.Txs[i].Images)]
				for j := range images {
					images[j] = api.Image{Block: -6}
				}
				for k := range i {
					if !slices.Equal(l.Txs[k].Images, want.Txs[k].Images) {
						t.Fatalf("the images of %d are written over by those of %d", l.Txs[k].Position, l.Txs[i].Position)
					}
				}
			}
		}
	}
}

func TestR3_WhatWasReadStaysWhenTheDiskGoesOn(t *testing.T) {
	c := usual()
	d := disk(t, c, 10, 2)
	laid(t, d, c, 10, laidImage(10, 0, api.Value{1}), laidCommit(11, 1))
	l, _ := scan.Read(d, c)
	want := clone(l)
	laid(t, d, c, 10, laidImage(10, 1, api.Value{2}), laidCommit(11, 1))
	d.Flush()
	if !same(l, want) {
		t.Errorf("what was read has changed: %+v, want %+v", l, want)
	}
}

func TestR5_DisksOfTheirOwn(t *testing.T) {
	c := usual()
	one, two := disk(t, c, 10, 2), disk(t, c, 20, 3)
	laid(t, one, c, 10, laidCommit(10, 0))
	laid(t, two, c, 20, laidImage(20, 1, api.Value{1}), laidCommit(21, 1))
	for range 3 {
		finds(t, one, c, 10, 10)
		finds(t, two, c, 20, 21)
		finds(t, one.Copy(), c, 10, 10)
	}
}

// last tells the last image of each block by going through all of them for each one.
func last(txs []scan.Tx) []api.Image {
	var all []api.Image
	for _, tx := range txs {
		all = append(all, tx.Images...)
	}
	var list []api.Image
	for i, image := range all {
		later := slices.ContainsFunc(all[i+1:], func(o api.Image) bool { return o.Block == image.Block })
		if later {
			continue
		}
		at := 0
		for at < len(list) && list[at].Block < image.Block {
			at++
		}
		list = slices.Insert(list, at, image)
	}
	return list
}

// newest fails, if Newest does not answer just this, or changes what came in.
func newest(t *testing.T, txs []scan.Tx, want []api.Image) {
	t.Helper()
	was := clone(scan.Log{Txs: txs})
	if got := scan.Newest(txs); !slices.Equal(got, want) {
		t.Fatalf("Newest(%+v): %v, want %v", txs, got, want)
	}
	if !same(scan.Log{Txs: txs}, was) {
		t.Fatalf("Newest has changed %+v to %+v", was.Txs, txs)
	}
}

// a tells an image whose value begins with a byte.
func a(block int, first byte) api.Image {
	return api.Image{Block: block, Value: api.Value{first}}
}

// tx tells a transaction of these images.
func tx(p uint64, images ...api.Image) scan.Tx {
	return scan.Tx{Position: p, Images: images}
}

func TestP10_3_NoImages(t *testing.T) {
	for _, txs := range [][]scan.Tx{nil, {}, {{}}, {{Position: 3}, {Position: 4, Images: []api.Image{}}}, {tx(math.MaxUint64), tx(0), tx(0)}} {
		newest(t, txs, nil)
	}
}

func TestP10_3_TheLastImageOfEachBlock(t *testing.T) {
	newest(t, []scan.Tx{tx(1, a(3, 1))}, []api.Image{a(3, 1)})
	newest(t, []scan.Tx{tx(1, a(3, 1)), tx(2, a(3, 2)), tx(3, a(3, 3))}, []api.Image{a(3, 3)})
	newest(t, []scan.Tx{tx(1, a(3, 1), a(3, 2), a(3, 3))}, []api.Image{a(3, 3)})
	newest(t, []scan.Tx{tx(1, a(3, 1), a(3, 2)), tx(2, a(3, 3), a(3, 1))}, []api.Image{a(3, 1)})
	newest(t, []scan.Tx{tx(1, a(9, 1), a(2, 2), a(5, 3), a(9, 4)), tx(2), tx(3, a(2, 5))}, []api.Image{a(2, 5), a(5, 3), a(9, 4)})
}

func TestP10_3_TheListsOrderCountsNotThePositions(t *testing.T) {
	newest(t, []scan.Tx{tx(9, a(0, 1)), tx(2, a(0, 2))}, []api.Image{a(0, 2)})
	newest(t, []scan.Tx{tx(2, a(0, 2)), tx(9, a(0, 1)), tx(9, a(0, 7))}, []api.Image{a(0, 7)})
}

func TestP10_3_AZeroValueIsAValue(t *testing.T) {
	newest(t, []scan.Tx{tx(1, a(0, 5)), tx(2, a(0, 0))}, []api.Image{a(0, 0)})
	newest(t, []scan.Tx{tx(1, api.Image{})}, []api.Image{{}})
}

func TestP10_3_AnyNumbersOfBlocks(t *testing.T) {
	numbers := []int{math.MinInt, math.MinInt + 1, -1 << 32, -64, -1, 0, 1, 63, 64, 65, 1 << 32, math.MaxInt - 1, math.MaxInt}
	var up, down []api.Image
	for i, n := range numbers {
		up = append(up, a(n, byte(i)))
		down = append([]api.Image{a(n, byte(i))}, down...)
	}
	newest(t, []scan.Tx{tx(1, up...)}, up)
	newest(t, []scan.Tx{tx(1, down...)}, up)
	newest(t, []scan.Tx{tx(1, a(math.MaxInt, 9), a(math.MinInt, 8)), tx(2, down...)}, up)
}

func TestP10_3_AllShortLists(t *testing.T) {
	// Each image is one of three blocks and ends its transaction or not: all lists of up to five.
	for n := range 6 {
		runs := 1
		for range n {
			runs *= 6
		}
		for run := range runs {
			txs := []scan.Tx{{}}
			for i := range n {
				choice := run % 6
				run /= 6
				at := &txs[len(txs)-1]
				at.Images = append(at.Images, a(choice%3-1, byte(i+1)))
				if choice >= 3 {
					txs = append(txs, scan.Tx{})
				}
			}
			newest(t, txs, last(txs))
		}
	}
}

func TestP10_3_LongLists(t *testing.T) {
	ch := chance(0x7e57)
	for range 50 {
		var txs []scan.Tx
		for range ch.below(40) {
			var images []api.Image
			for range ch.below(20) {
				images = append(images, api.Image{Block: ch.below(30) - 10, Value: ch.value()})
			}
			txs = append(txs, scan.Tx{Position: ch.next(), Images: images})
		}
		newest(t, txs, last(txs))
	}
}

func TestP10_3_ManyImagesAreToldSoon(t *testing.T) {
	const n = 1 << 18
	images := make([]api.Image, 2*n)
	for i := range images {
		images[i] = api.Image{Block: n - i%n, Value: api.Value{byte(i / n)}}
	}
	got := scan.Newest([]scan.Tx{tx(1, images...)})
	if len(got) != n {
		t.Fatalf("%d images", len(got))
	}
	for i, image := range got {
		if image != a(i+1, 1) {
			t.Fatalf("image %d: %+v", i, image)
		}
	}
}

func TestR3_WhatNewestHandsOutIsNew(t *testing.T) {
	room := make([]api.Image, 2, 8)
	room[0], room[1] = a(4, 1), a(6, 2)
	for i := range 6 {
		room[:8][2+i] = a(-1, 9)
	}
	txs := append(make([]scan.Tx, 0, 4), tx(1, a(4, 9)), scan.Tx{Position: 2, Images: room})
	first := scan.Newest(txs)
	second := scan.Newest(txs)
	for i := range first[:cap(first)] {
		first[:cap(first)][i] = a(-3, 3)
	}
	if want := []api.Image{a(4, 1), a(6, 2)}; !slices.Equal(second, want) || !slices.Equal(room, want) || !slices.Equal(scan.Newest(txs), want) {
		t.Errorf("memory is shared: %v, %v", second, room)
	}
	for i := range 6 {
		if room[:8][2+i] != a(-1, 9) {
			t.Error("spare room has been written")
		}
	}
	if spare := txs[:4][2:]; spare[0].Position != 0 || spare[1].Images != nil {
		t.Error("spare room of the list has been written")
	}
	room[0] = a(5, 5)
	if second[0] != a(4, 1) {
		t.Error("what was handed in has been kept")
	}
}

func TestP10_3_OfWhatReadHasFound(t *testing.T) {
	ch := chance(0xc0ffee)
	for range 60 {
		for _, c := range whole() {
			w := opens(t, c, uint64(ch.below(300)), 1)
			w.fill(&ch, c, 1+ch.below(3*c.LogCap))
			got, e := scan.Read(w.disk, c)
			if e != api.OK {
				t.Fatal(e)
			}
			newest(t, got.Txs, last(w.want.Txs))
		}
	}
}

func TestExample1(t *testing.T) {
	reads(t, disk(t, usual(), 10, 2), usual(), scan.Log{Tail: 10, Life: 2, End: 10})
}

func TestExample2(t *testing.T) {
	c := usual()
	d := disk(t, c, 10, 2)
	v, w := api.Value{1, 2}, api.Value{3, 4}
	wrote(t, d, 6, laidImage(10, 0, v))
	wrote(t, d, 7, laidImage(11, 2, w))
	wrote(t, d, 4, laidCommit(12, 2))
	reads(t, d, c, scan.Log{Tail: 10, Life: 2, End: 13, Txs: []scan.Tx{tx(12, api.Image{Block: 0, Value: v}, api.Image{Block: 2, Value: w})}})
	twin := d.Copy()
	wrote(t, twin, 7, make([]byte, 64))
	reads(t, twin, c, scan.Log{Tail: 10, Life: 2, End: 10})
	wrote(t, d, 4, laidCommit(12, 1))
	reads(t, d, c, scan.Log{Tail: 10, Life: 2, End: 10})
}

func TestExample3(t *testing.T) {
	c := usual()
	d := disk(t, c, 10, 2)
	wrote(t, d, 6, laidCommit(10, 0))
	wrote(t, d, 7, laidCommit(11, 0))
	wrote(t, d, 4, laidImage(12, 1, api.Value{1}))
	want := scan.Log{Tail: 10, Life: 2, End: 12, Txs: []scan.Tx{tx(10), tx(11)}}
	reads(t, d, c, want)
	for _, b := range [][]byte{laidCommit(9, 0), laidCommit(9, 1), laidImage(9, 2, api.Value{2})} {
		wrote(t, d, 5, b)
		reads(t, d, c, want)
	}
}

func TestExample4(t *testing.T) {
	c := usual()
	refused(t, blank(t, 9), c, api.ErrSector)
	refused(t, blank(t, 8), c, api.ErrSuper)
	d := blank(t, 8)
	wrote(t, d, 0, laidSuper(config(2, 5, 2, 4, 1), 10, 2))
	refused(t, d, c, api.ErrConfig)
}

func TestExample5(t *testing.T) {
	x, y, z := api.Value{1}, api.Value{2}, api.Value{3}
	txs := []scan.Tx{{Images: []api.Image{{Block: 0, Value: x}, {Block: 2, Value: y}}}, {Images: []api.Image{{Block: 0, Value: z}}}}
	newest(t, txs, []api.Image{{Block: 0, Value: z}, {Block: 2, Value: y}})
}
