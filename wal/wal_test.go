package wal_test

import (
	"bytes"
	"hash/crc32"
	"math"
	"slices"
	"testing"

	"wicket/api"
	"wicket/record"
	"wicket/sector"
	"wicket/super"
	"wicket/wal"
)

// most is the greatest position that may be, written as the document has it.
const most = uint64(1) << 62

// chance tells numbers that look like chance and are the same in each run.
type chance uint64

func (c *chance) next() uint64 {
	*c ^= *c << 13
	*c ^= *c >> 7
	*c ^= *c << 17
	return uint64(*c)
}

// below tells one of 0 to n - 1.
func (c *chance) below(n int) int {
	return int(c.next() % uint64(n))
}

// value tells one of all bytes.
func (c *chance) value() api.Value {
	var v api.Value
	for i := range v {
		v[i] = byte(c.next())
	}
	return v
}

// number tells n's bytes, the lowest first.
func number(n uint64, size int) []byte {
	b := make([]byte, size)
	for i := range b {
		b[i] = byte(n >> (8 * i))
	}
	return b
}

// summed tells 64 bytes: those given, zeros up to byte 59, and their sum, reckoned by another hand than the layers'.
func summed(b ...byte) []byte {
	all := make([]byte, 60)
	copy(all, b)
	return append(all, number(uint64(crc32.ChecksumIEEE(all)), 4)...)
}

// laidImage tells the 64 bytes of an image's record.
func laidImage(p uint64, block int, v api.Value) []byte {
	return summed(slices.Concat([]byte{87, 1, 0, 0}, number(p, 8), number(uint64(block), 4), v[:])...)
}

// laidCommit tells the 64 bytes of a commit's record.
func laidCommit(p uint64, images int) []byte {
	return summed(slices.Concat([]byte{87, 2, 0, 0}, number(p, 8), number(uint64(images), 4))...)
}

// laidSuper tells the 64 bytes of a superblock.
func laidSuper(c api.Config, tail, life uint64) []byte {
	parts := []byte{byte(c.Blocks), byte(c.LogCap), byte(c.MaxRes), byte(c.High), byte(c.Clients), 0, 0, 0}
	return summed(slices.Concat([]byte("WICKET\x01\x00"), parts, number(tail, 8), number(life, 8))...)
}

// config tells a configuration of its parts, in their order.
func config(blocks, logCap, maxRes, high, clients int) api.Config {
	return api.Config{Blocks: blocks, LogCap: logCap, MaxRes: maxRes, High: high, Clients: clients}
}

// usual is the configuration of the chapter's examples.
func usual() api.Config {
	return config(3, 4, 2, 4, 1)
}

// whole tells configurations that may be: the fewest and the most blocks, slots and images among them.
func whole() []api.Config {
	return []api.Config{
		usual(),
		config(1, 2, 1, 1, 1), config(64, 2, 1, 2, 8), config(1, 64, 1, 64, 8), config(64, 64, 16, 64, 8),
		config(2, 3, 2, 1, 1), config(5, 6, 3, 6, 7), config(16, 17, 16, 17, 1), config(8, 7, 6, 3, 2), config(63, 63, 7, 9, 2),
	}
}

// lost tells configurations that may not be, by one part each.
func lost() []api.Config {
	return []api.Config{
		{},
		config(0, 4, 1, 4, 1), config(-1, 4, 1, 4, 1), config(65, 4, 2, 4, 1), config(math.MaxInt, 4, 2, 4, 1), config(math.MinInt, 4, 2, 4, 1),
		config(3, 1, 1, 1, 1), config(3, 0, 2, 4, 1), config(3, -1, 2, 4, 1), config(3, 65, 2, 4, 1), config(3, math.MaxInt, 2, 4, 1), config(3, math.MinInt, 2, 4, 1),
		config(3, 4, 0, 4, 1), config(3, 4, -1, 4, 1), config(3, 5, 4, 4, 1), config(4, 4, 4, 4, 1), config(64, 64, 17, 4, 1),
		config(3, 4, 2, 0, 1), config(3, 4, 2, 5, 1), config(3, 4, 2, -1, 1),
		config(3, 4, 2, 4, 0), config(3, 4, 2, 4, 9), config(3, 4, 2, 4, -1),
	}
}

// noBlocks tells numbers that are none of so many blocks.
func noBlocks(blocks int) []int {
	return []int{math.MinInt, math.MinInt + 1, -1 << 32, -64, -2, -1, blocks, blocks + 1, 64, 65, 256, 1 << 32, math.MaxInt - 1, math.MaxInt}
}

// sectors tells how many a disk of a configuration has.
func sectors(c api.Config) int {
	return 1 + c.Blocks + c.LogCap
}

// sectorOf tells where a position's record stands, as the document has it.
func sectorOf(c api.Config, p uint64) int {
	return 1 + c.Blocks + int(p%uint64(c.LogCap))
}

// blank tells a disk of zeros.
func blank(t *testing.T, n int) *sector.Disk {
	t.Helper()
	d, e := sector.New(n)
	if d == nil || e != api.OK {
		t.Fatalf("sector.New(%d): %d", n, e)
	}
	return d
}

// wrote does a write that is taken.
func wrote(t *testing.T, d *sector.Disk, n int, b []byte) {
	t.Helper()
	if e := d.Write(n, b); e != api.OK {
		t.Fatalf("Write(%d, %d bytes): %d", n, len(b), e)
	}
}

// scrawled tells a disk on which each sector has bytes of its own, durable ones and waiting ones that are no layer's.
func scrawled(t *testing.T, n int) *sector.Disk {
	t.Helper()
	d := blank(t, n)
	for i := range n {
		wrote(t, d, i, bytes.Repeat([]byte{byte(i + 1)}, 64))
	}
	d.Flush()
	wrote(t, d, n-1, bytes.Repeat([]byte{0xee}, 64))
	wrote(t, d, 0, bytes.Repeat([]byte{0xdd}, 64))
	return d
}

// opened tells a log over a blank disk, and the disk.
func opened(t *testing.T, c api.Config, tail, life uint64) (*wal.Log, *sector.Disk) {
	t.Helper()
	d := blank(t, sectors(c))
	l, e := wal.Open(d, c, tail, life)
	if l == nil || e != api.OK {
		t.Fatalf("Open(%+v, %d, %d): %d", c, tail, life, e)
	}
	return l, d
}

// image does an Image that is taken at position p.
func image(t *testing.T, l *wal.Log, block int, v api.Value, p uint64) {
	t.Helper()
	if got, e := l.Image(block, v); got != p || e != api.OK {
		t.Fatalf("Image(%d): %d, %d, want %d", block, got, e, p)
	}
}

// commit does a Commit that is taken at position p.
func commit(t *testing.T, l *wal.Log, p uint64) {
	t.Helper()
	if got, e := l.Commit(); got != p || e != api.OK {
		t.Fatalf("Commit: %d, %d, want %d", got, e, p)
	}
}

// mark does a Mark that is taken.
func mark(t *testing.T, l *wal.Log, target uint64) {
	t.Helper()
	if e := l.Mark(target); e != api.OK {
		t.Fatalf("Mark(%d): %d", target, e)
	}
}

// free does a Free that frees n slots.
func free(t *testing.T, l *wal.Log, n int) {
	t.Helper()
	if got, e := l.Free(); got != n || e != api.OK {
		t.Fatalf("Free: %d, %d, want %d", got, e, n)
	}
}

// noImage fails, if Image does not answer this error alone.
func noImage(t *testing.T, l *wal.Log, block int, want api.Errno) {
	t.Helper()
	if p, e := l.Image(block, api.Value{9}); p != 0 || e != want {
		t.Fatalf("Image(%d): %d, %d, want error %d", block, p, e, want)
	}
}

// noCommit fails, if Commit does not answer this error alone.
func noCommit(t *testing.T, l *wal.Log, want api.Errno) {
	t.Helper()
	if p, e := l.Commit(); p != 0 || e != want {
		t.Fatalf("Commit: %d, %d, want error %d", p, e, want)
	}
}

// noRead fails, if Read does not answer this error alone.
func noRead(t *testing.T, l *wal.Log, p uint64, want api.Errno) {
	t.Helper()
	if r, e := l.Read(p); r != (record.Record{}) || e != want {
		t.Fatalf("Read(%d): %+v, %d, want error %d", p, r, e, want)
	}
}

// reads fails, if Read of a position does not answer this record.
func reads(t *testing.T, l *wal.Log, want record.Record) {
	t.Helper()
	if r, e := l.Read(want.Position); r != want || e != api.OK {
		t.Fatalf("Read(%d): %+v, %d, want %+v", want.Position, r, e, want)
	}
}

// stands fails, if the log's four numbers are not these.
func stands(t *testing.T, l *wal.Log, tail, end, mark uint64) {
	t.Helper()
	if l.Tail() != tail || l.End() != end || l.Marked() != mark || l.Used() != int(end-tail) {
		t.Fatalf("Tail %d, End %d, Marked %d, Used %d, want %d, %d, %d, %d", l.Tail(), l.End(), l.Marked(), l.Used(), tail, end, mark, end-tail)
	}
}

// records tells what All gives; each under its own position.
func records(t *testing.T, l *wal.Log) []record.Record {
	t.Helper()
	var list []record.Record
	for p, r := range l.All() {
		if r.Position != p {
			t.Fatalf("All: %+v at %d", r, p)
		}
		list = append(list, r)
	}
	return list
}

// told is all that a disk tells, to be held against later.
type told struct {
	image   []byte
	waiting []sector.Write
}

func tells(d *sector.Disk) told {
	return told{d.Image(), d.Waiting()}
}

// same tells whether two disks have told the same.
func (a told) same(b told) bool {
	return bytes.Equal(a.image, b.image) && slices.EqualFunc(a.waiting, b.waiting, func(x, y sector.Write) bool {
		return x.Sector == y.Sector && bytes.Equal(x.Data, y.Data)
	})
}

// an tells the record of an image.
func an(p uint64, block int, v api.Value) record.Record {
	return record.Record{Kind: record.Image, Position: p, Block: block, Value: v}
}

// a tells the record of a commit.
func a(p uint64, images int) record.Record {
	return record.Record{Kind: record.Commit, Position: p, Images: images}
}

func TestP9_1_ALogWithoutRecords(t *testing.T) {
	for _, c := range whole() {
		for _, tail := range []uint64{0, 1, 10, most - 1, most} {
			for _, life := range []uint64{1, 2, most - 1, most} {
				d := scrawled(t, sectors(c))
				was := tells(d)
				l, e := wal.Open(d, c, tail, life)
				if l == nil || e != api.OK {
					t.Fatalf("Open(%+v, %d, %d): %d", c, tail, life, e)
				}
				stands(t, l, tail, tail, tail)
				noRead(t, l, tail, api.ErrRing)
				if len(records(t, l)) != 0 || !tells(d).same(was) {
					t.Fatalf("Open(%+v, %d, %d): there are records, or the disk has changed", c, tail, life)
				}
			}
		}
	}
}

func TestP9_1_WhatStandsOnTheDiskIsNotAsked(t *testing.T) {
	c := usual()
	d := blank(t, sectors(c))
	wrote(t, d, 0, laidSuper(config(2, 5, 1, 1, 1), 77, 5))
	wrote(t, d, sectorOf(c, 10), laidCommit(10, 0))
	l, e := wal.Open(d, c, 10, 1)
	if e != api.OK {
		t.Fatal(e)
	}
	stands(t, l, 10, 10, 10)
	noRead(t, l, 10, api.ErrRing)
	if len(records(t, l)) != 0 {
		t.Error("a record of before Open is told")
	}
}

// notOpened fails, if Open does not answer this error alone.
func notOpened(t *testing.T, d *sector.Disk, c api.Config, tail, life uint64, want api.Errno) {
	t.Helper()
	was := tells(d)
	if l, e := wal.Open(d, c, tail, life); l != nil || e != want {
		t.Fatalf("Open(%d sectors, %+v, %d, %d): %v, %d, want error %d", d.Len(), c, tail, life, l != nil, e, want)
	}
	if !tells(d).same(was) {
		t.Fatalf("Open(%d sectors, %+v, %d, %d) was refused and wrote", d.Len(), c, tail, life)
	}
}

func TestP9_1_ErrorsInTheirOrder(t *testing.T) {
	numbers := []uint64{0, 1, most - 1, most, most + 1, 1 << 63, math.MaxUint64}
	for _, tail := range numbers {
		for _, life := range numbers {
			for _, bad := range lost() {
				notOpened(t, nil, bad, tail, life, api.ErrHandle)
				notOpened(t, blank(t, 8), bad, tail, life, api.ErrConfig)
				notOpened(t, blank(t, 1), bad, tail, life, api.ErrConfig)
			}
			for _, c := range whole() {
				notOpened(t, nil, c, tail, life, api.ErrHandle)
				for _, n := range []int{1, sectors(c) - 1, sectors(c) + 1, 2 * sectors(c), 4096} {
					notOpened(t, blank(t, n), c, tail, life, api.ErrSector)
				}
				switch d := scrawled(t, sectors(c)); {
				case tail > most || life > most:
					notOpened(t, d, c, tail, life, api.ErrWrap)
				case life == 0:
					notOpened(t, d, c, tail, life, api.ErrInput)
				}
			}
		}
	}
}

func TestP9_2_WritesTheRecordToItsSlot(t *testing.T) {
	ch := chance(3)
	for _, c := range whole() {
		for _, tail := range []uint64{0, 1, uint64(c.LogCap) - 1, uint64(c.LogCap), 1000003, most - 64} {
			l, d := opened(t, c, tail, 1)
			zeros := d.Image()
			for n := range c.MaxRes {
				p, block, v := tail+uint64(n), c.Blocks-c.MaxRes+n, ch.value()
				image(t, l, block, v, p)
				w := d.Waiting()
				if len(w) != n+1 || w[n].Sector != sectorOf(c, p) || !bytes.Equal(w[n].Data, laidImage(p, block, v)) {
					t.Fatalf("%+v: Image(%d) at %d: %+v wait", c, block, p, w)
				}
				if !bytes.Equal(d.Image(), zeros) {
					t.Fatalf("%+v: Image(%d) at %d did not wait", c, block, p)
				}
				stands(t, l, tail, p+1, tail)
				reads(t, l, an(p, block, v))
			}
		}
	}
}

func TestP9_2_NoBlock(t *testing.T) {
	for _, c := range whole() {
		l, d := opened(t, c, 5, 1)
		for _, block := range noBlocks(c.Blocks) {
			noImage(t, l, block, api.ErrRecord)
		}
		stands(t, l, 5, 5, 5)
		if len(d.Waiting()) != 0 {
			t.Fatalf("%+v: a refused Image wrote", c)
		}
		image(t, l, c.Blocks-1, api.Value{}, 5)
		for _, block := range noBlocks(c.Blocks) {
			noImage(t, l, block, api.ErrRecord)
		}
		stands(t, l, 5, 6, 5)
	}
}

func TestP9_2_TheFirstBlockAndTheLast(t *testing.T) {
	for _, c := range whole() {
		l, _ := opened(t, c, 0, 1)
		image(t, l, 0, api.Value{1}, 0)
		commit(t, l, 1)
		mark(t, l, 2)
		free(t, l, 2)
		image(t, l, c.Blocks-1, api.Value{2}, 2)
		commit(t, l, 3)
		reads(t, l, an(2, c.Blocks-1, api.Value{2}))
	}
}

func TestP9_2_AboveTheLastImagesBlock(t *testing.T) {
	c := config(8, 16, 6, 16, 1)
	for first := range c.Blocks {
		for second := range c.Blocks {
			l, _ := opened(t, c, 0, 1)
			image(t, l, first, api.Value{}, 0)
			if second > first {
				image(t, l, second, api.Value{}, 1)
				continue
			}
			noImage(t, l, second, api.ErrRecord)
			// The one that was refused is not the last: what is above the first one still may be.
			if first+1 < c.Blocks {
				image(t, l, first+1, api.Value{}, 1)
			}
		}
	}
}

func TestP9_2_AnyBlockBehindACommit(t *testing.T) {
	c := config(8, 16, 6, 16, 1)
	for first := range c.Blocks {
		for second := range c.Blocks {
			l, _ := opened(t, c, 0, 1)
			image(t, l, first, api.Value{1}, 0)
			commit(t, l, 1)
			image(t, l, second, api.Value{2}, 2)
			commit(t, l, 3)
			reads(t, l, a(3, 1))
		}
	}
}

func TestP9_2_TheTransactionGoesOnBehindOtherCalls(t *testing.T) {
	// Neither a flush, nor a mark, nor a freed slot is the end of a transaction.
	l, _ := opened(t, config(8, 4, 3, 4, 1), 0, 1)
	image(t, l, 1, api.Value{}, 0)
	l.Flush()
	noImage(t, l, 1, api.ErrRecord)
	image(t, l, 3, api.Value{}, 1)
	mark(t, l, 2)
	noImage(t, l, 2, api.ErrRecord)
	free(t, l, 2)
	noImage(t, l, 3, api.ErrRecord)
	image(t, l, 5, api.Value{}, 2)
	noImage(t, l, 6, api.ErrRecord)
	commit(t, l, 3)
	reads(t, l, a(3, 3))
}

func TestP9_2_MaxResImagesAndOneMore(t *testing.T) {
	for _, c := range []api.Config{config(4, 8, 3, 8, 1), config(64, 64, 16, 64, 8), config(64, 2, 1, 2, 1), config(64, 17, 16, 1, 1), config(2, 64, 1, 64, 1)} {
		l, d := opened(t, c, 0, 1)
		for n := range c.MaxRes {
			image(t, l, n, api.Value{byte(n)}, uint64(n))
		}
		p := uint64(c.MaxRes)
		was := tells(d)
		noImage(t, l, c.MaxRes, api.ErrRecord)
		noImage(t, l, c.Blocks-1, api.ErrRecord)
		stands(t, l, 0, p, 0)
		if !tells(d).same(was) {
			t.Fatalf("%+v: a refused Image wrote", c)
		}
		commit(t, l, p)
		reads(t, l, a(p, c.MaxRes))
		mark(t, l, p+1)
		free(t, l, c.MaxRes+1)
		image(t, l, c.Blocks-1, api.Value{}, p+1)
	}
}

func TestP9_2_And_9_3_Full(t *testing.T) {
	for _, c := range whole() {
		l, d := opened(t, c, 7, 1)
		for n := range c.LogCap - 1 {
			commit(t, l, 7+uint64(n))
		}
		last := 7 + uint64(c.LogCap) - 1
		if l.Used() != c.LogCap-1 {
			t.Fatalf("%+v: Used %d with one slot left", c, l.Used())
		}
		noImage(t, l, -1, api.ErrRecord)
		image(t, l, 0, api.Value{1}, last)
		was := tells(d)
		for _, block := range append(noBlocks(c.Blocks), 0, c.Blocks-1) {
			noImage(t, l, block, api.ErrFull)
		}
		noCommit(t, l, api.ErrFull)
		stands(t, l, 7, last+1, 7)
		if !tells(d).same(was) {
			t.Fatalf("%+v: a full log has been written to", c)
		}
		// A mark alone frees nothing.
		mark(t, l, 8)
		noCommit(t, l, api.ErrFull)
		free(t, l, 1)
		commit(t, l, last+1)
		reads(t, l, a(last+1, 1))
		noCommit(t, l, api.ErrFull)
	}
}

func TestP9_2_And_9_3_TheLastPosition(t *testing.T) {
	for _, c := range whole() {
		l, d := opened(t, c, most-1, most)
		image(t, l, 0, api.Value{3}, most-1)
		was := tells(d)
		for _, block := range append(noBlocks(c.Blocks), 0, c.Blocks-1) {
			noImage(t, l, block, api.ErrWrap)
		}
		noCommit(t, l, api.ErrWrap)
		stands(t, l, most-1, most, most-1)
		if !tells(d).same(was) {
			t.Fatalf("%+v: written beyond the last position", c)
		}
		reads(t, l, an(most-1, 0, api.Value{3}))
		mark(t, l, most)
		free(t, l, 1)
		stands(t, l, most, most, most)
		noCommit(t, l, api.ErrWrap)
	}
	for _, tail := range []uint64{most} {
		l, d := opened(t, usual(), tail, 1)
		noCommit(t, l, api.ErrWrap)
		noImage(t, l, 0, api.ErrWrap)
		noImage(t, l, 9, api.ErrWrap)
		if len(d.Waiting()) != 0 {
			t.Error("written at MaxPos")
		}
	}
}

func TestP9_2_And_9_3_WrapAheadOfFull(t *testing.T) {
	for _, c := range whole() {
		tail := most - uint64(c.LogCap)
		l, _ := opened(t, c, tail, 1)
		for p := tail; p < most; p++ {
			commit(t, l, p)
		}
		if l.Used() != c.LogCap {
			t.Fatalf("%+v: Used %d", c, l.Used())
		}
		noCommit(t, l, api.ErrWrap)
		noImage(t, l, 0, api.ErrWrap)
		noImage(t, l, -1, api.ErrWrap)
		if n := len(records(t, l)); n != c.LogCap {
			t.Fatalf("%+v: %d records up to the last position", c, n)
		}
	}
}

func TestP9_3_TellsHowManyImages(t *testing.T) {
	c := config(64, 64, 16, 64, 8)
	for images := range 17 {
		l, d := opened(t, c, 100, 1)
		for n := range images {
			image(t, l, 3*n, api.Value{byte(n)}, 100+uint64(n))
		}
		p := 100 + uint64(images)
		commit(t, l, p)
		w := d.Waiting()
		if len(w) != images+1 || w[images].Sector != sectorOf(c, p) || !bytes.Equal(w[images].Data, laidCommit(p, images)) {
			t.Fatalf("Commit behind %d images: %+v", images, w[len(w)-1])
		}
		reads(t, l, a(p, images))
		// Then there are none.
		commit(t, l, p+1)
		reads(t, l, a(p+1, 0))
		if w := d.Waiting(); !bytes.Equal(w[images+1].Data, laidCommit(p+1, 0)) {
			t.Fatalf("the next Commit: %+v", w[images+1])
		}
		stands(t, l, 100, p+2, 100)
	}
}

func TestP9_3_CommitsAlone(t *testing.T) {
	for _, c := range whole() {
		l, d := opened(t, c, 0, 1)
		for n := range c.LogCap {
			commit(t, l, uint64(n))
			reads(t, l, a(uint64(n), 0))
		}
		for n, w := range d.Waiting() {
			if w.Sector != 1+c.Blocks+n || !bytes.Equal(w.Data, laidCommit(uint64(n), 0)) {
				t.Fatalf("%+v: write %d: %+v", c, n, w)
			}
		}
	}
}

func TestP9_4_FlushesAllThatWaits(t *testing.T) {
	c := usual()
	l, d := opened(t, c, 10, 1)
	flushes := func(want int) {
		t.Helper()
		if n, e := l.Flush(); n != want || e != api.OK || len(d.Waiting()) != 0 {
			t.Fatalf("Flush: %d, %d, want %d; %d wait", n, e, want, len(d.Waiting()))
		}
	}
	flushes(0)
	image(t, l, 1, api.Value{4}, 10)
	flushes(1)
	flushes(0)
	commit(t, l, 11)
	mark(t, l, 10)
	mark(t, l, 12)
	wrote(t, d, 1, bytes.Repeat([]byte{6}, 64))
	flushes(4)
	want := slices.Concat(laidSuper(c, 12, 1), bytes.Repeat([]byte{6}, 64), make([]byte, 128), make([]byte, 128), laidImage(10, 1, api.Value{4}), laidCommit(11, 1))
	if !bytes.Equal(d.Image(), want) {
		t.Errorf("the disk: % x, want % x", d.Image(), want)
	}
	// A flush frees nothing, also where a mark has been written.
	stands(t, l, 10, 12, 12)
	reads(t, l, a(11, 1))
}

func TestP9_5_WritesTheSuperblock(t *testing.T) {
	for _, c := range whole() {
		for _, life := range []uint64{1, 77, most} {
			for _, tail := range []uint64{0, 1, 1000, most - 2} {
				l, d := opened(t, c, tail, life)
				commit(t, l, tail)
				commit(t, l, tail+1)
				l.Flush()
				was := d.Image()
				for n, target := range []uint64{tail + 1, tail + 2, tail, tail, tail + 1} {
					mark(t, l, target)
					stands(t, l, tail, tail+2, target)
					w := d.Waiting()
					if len(w) != n+1 || w[n].Sector != 0 || !bytes.Equal(w[n].Data, laidSuper(c, target, life)) {
						t.Fatalf("%+v: Mark(%d): %+v wait", c, target, w)
					}
					if !bytes.Equal(d.Image(), was) {
						t.Fatalf("%+v: Mark(%d) did not wait", c, target)
					}
				}
			}
		}
	}
}

func TestP9_5_BelowTailAndAboveEnd(t *testing.T) {
	l, d := opened(t, usual(), 10, 1)
	refused := func(targets ...uint64) {
		t.Helper()
		was := tells(d)
		tail, end, marked := l.Tail(), l.End(), l.Marked()
		for _, target := range targets {
			if e := l.Mark(target); e != api.ErrInput {
				t.Fatalf("Mark(%d): %d, want ErrInput", target, e)
			}
		}
		stands(t, l, tail, end, marked)
		if !tells(d).same(was) {
			t.Fatal("a refused Mark wrote")
		}
	}
	refused(0, 9, 11, most, most+1, math.MaxUint64)
	mark(t, l, 10)
	image(t, l, 0, api.Value{}, 10)
	image(t, l, 2, api.Value{}, 11)
	commit(t, l, 12)
	refused(0, 9, 14, math.MaxUint64)
	mark(t, l, 13)
	refused(9, 14)
	mark(t, l, 11)
	refused(9, 14)
	free(t, l, 1)
	refused(0, 9, 10, 14)
	mark(t, l, 11)
	mark(t, l, 13)
}

func TestP9_5_AtTheLastPosition(t *testing.T) {
	c := usual()
	l, d := opened(t, c, most, most)
	mark(t, l, most)
	for _, target := range []uint64{most - 1, most + 1, math.MaxUint64} {
		if e := l.Mark(target); e != api.ErrInput {
			t.Errorf("Mark(%d): %d", target, e)
		}
	}
	if b, _ := d.Read(0); !bytes.Equal(b, laidSuper(c, most, most)) {
		t.Errorf("the superblock: % x", b)
	}
}

func TestP9_6_FreesUpToTheMark(t *testing.T) {
	for _, c := range whole() {
		for upTo := range c.LogCap + 1 {
			l, d := opened(t, c, 20, 3)
			for n := range c.LogCap {
				commit(t, l, 20+uint64(n))
			}
			end, target := 20+uint64(c.LogCap), 20+uint64(upTo)
			mark(t, l, target)
			free(t, l, upTo)
			stands(t, l, target, end, target)
			if len(d.Waiting()) != 0 {
				t.Fatalf("%+v: %d writes wait behind Free", c, len(d.Waiting()))
			}
			free(t, l, 0)
			stands(t, l, target, end, target)
			for n := range upTo {
				noRead(t, l, 20+uint64(n), api.ErrRing)
			}
			if got := records(t, l); len(got) != c.LogCap-upTo {
				t.Fatalf("%+v: %d records behind a Free of %d", c, len(got), upTo)
			}
		}
	}
}

func TestP9_6_WithoutAMarkItFlushesAlone(t *testing.T) {
	c := usual()
	l, d := opened(t, c, 10, 1)
	free(t, l, 0)
	image(t, l, 0, api.Value{1}, 10)
	commit(t, l, 11)
	free(t, l, 0)
	stands(t, l, 10, 12, 10)
	if len(d.Waiting()) != 0 || !bytes.Equal(d.Image()[64*6:], slices.Concat(laidImage(10, 0, api.Value{1}), laidCommit(11, 1))) {
		t.Error("Free did not flush")
	}
	if b, _ := d.Read(0); !bytes.Equal(b, make([]byte, 64)) {
		t.Errorf("Free wrote a superblock: % x", b)
	}
	mark(t, l, 11)
	free(t, l, 1)
	commit(t, l, 12)
	free(t, l, 0)
	stands(t, l, 11, 13, 11)
}

func TestP9_6_TheLastMarkCounts(t *testing.T) {
	l, d := opened(t, usual(), 10, 1)
	for n := range 4 {
		commit(t, l, 10+uint64(n))
	}
	mark(t, l, 14)
	mark(t, l, 10)
	mark(t, l, 12)
	free(t, l, 2)
	stands(t, l, 12, 14, 12)
	if b, _ := d.Read(0); !bytes.Equal(b, laidSuper(usual(), 12, 1)) {
		t.Errorf("the superblock: % x", b)
	}
}

func TestP9_6_AlsoWhereTheMarkIsLost(t *testing.T) {
	// The mark is the log's own number: a crash takes the superblock, not the number.
	c := usual()
	l, d := opened(t, c, 10, 1)
	commit(t, l, 10)
	l.Flush()
	mark(t, l, 11)
	d.Crash()
	stands(t, l, 10, 11, 11)
	free(t, l, 1)
	stands(t, l, 11, 11, 11)
	if b, _ := d.Read(0); !bytes.Equal(b, make([]byte, 64)) {
		t.Errorf("the superblock: % x", b)
	}
}

func TestP9_7_ReadOutsideTheLog(t *testing.T) {
	for _, c := range whole() {
		l, d := opened(t, c, 100, 1)
		// Right records stand everywhere, so that the log's numbers alone tell.
		for n := range c.LogCap {
			wrote(t, d, sectorOf(c, 100+uint64(n)), laidCommit(100+uint64(n), 0))
		}
		for _, p := range []uint64{0, 99, 100, 101, most, most + 1, math.MaxUint64} {
			noRead(t, l, p, api.ErrRing)
		}
		commit(t, l, 100)
		commit(t, l, 101)
		reads(t, l, a(100, 0))
		reads(t, l, a(101, 0))
		for _, p := range []uint64{0, 99, 102, 103, 100 + uint64(c.LogCap), most, most + 1, 1 << 63, math.MaxUint64} {
			noRead(t, l, p, api.ErrRing)
		}
		mark(t, l, 101)
		reads(t, l, a(100, 0))
		free(t, l, 1)
		noRead(t, l, 100, api.ErrRing)
		reads(t, l, a(101, 0))
	}
}

// foreign tells sectors that are no record of position p.
func foreign(c api.Config, p uint64) [][]byte {
	v := api.Value{5, 31: 6}
	list := [][]byte{
		make([]byte, 64), bytes.Repeat([]byte{255}, 64), laidSuper(c, p, 1), summed(), summed(87), summed(slices.Concat([]byte{87, 3, 0, 0}, number(p, 8))...),
		laidCommit(p, 17), laidImage(p, 64, v), laidCommit(most+1, 0),
	}
	for _, other := range []uint64{0, p - 1, p + 1, p - uint64(c.LogCap), p + uint64(c.LogCap), p + 2*uint64(c.LogCap), p ^ 1<<32, p ^ 1<<61} {
		if other != p {
			list = append(list, laidCommit(other, 1), laidImage(other, 0, v))
		}
	}
	for at := range 64 {
		for _, x := range []byte{1, 128, 255} {
			b := laidImage(p, 0, v)
			b[at] ^= x
			list = append(list, b)
		}
	}
	return list
}

func TestP9_7_ForeignBytesInASlot(t *testing.T) {
	for _, c := range []api.Config{usual(), config(1, 2, 1, 1, 1), config(64, 64, 16, 64, 8)} {
		l, d := opened(t, c, 1000, 1)
		for n := range c.LogCap {
			commit(t, l, 1000+uint64(n))
		}
		for n := range c.LogCap {
			p := 1000 + uint64(n)
			for _, b := range foreign(c, p) {
				wrote(t, d, sectorOf(c, p), b)
				noRead(t, l, p, api.ErrRecord)
				if got := records(t, l); len(got) != n {
					t.Fatalf("%+v: %d records ahead of % x at %d, want %d", c, len(got), b, p, n)
				}
				d.Flush()
				noRead(t, l, p, api.ErrRecord)
			}
			// All others are read as ahead, also those behind it.
			for m := range c.LogCap {
				if m != n {
					reads(t, l, a(1000+uint64(m), 0))
				}
			}
			wrote(t, d, sectorOf(c, p), laidCommit(p, 0))
			reads(t, l, a(p, 0))
		}
		if got := records(t, l); len(got) != c.LogCap {
			t.Fatalf("%+v: mended: %d records", c, len(got))
		}
	}
}

func TestP9_7_AnotherRightRecordOfThatPosition(t *testing.T) {
	// What stands there under that position is told, whoever wrote it.
	c := usual()
	l, d := opened(t, c, 10, 1)
	commit(t, l, 10)
	commit(t, l, 11)
	v := api.Value{7}
	wrote(t, d, sectorOf(c, 10), laidImage(10, 63, v))
	reads(t, l, an(10, 63, v))
	wrote(t, d, sectorOf(c, 11), laidCommit(11, 16))
	reads(t, l, a(11, 16))
	if got := records(t, l); !slices.Equal(got, []record.Record{an(10, 63, v), a(11, 16)}) {
		t.Errorf("All: %+v", got)
	}
}

func TestP9_7_CrashesThatLose(t *testing.T) {
	c := config(3, 6, 2, 4, 1)
	v, w := api.Value{1}, api.Value{31: 2}
	all := []record.Record{an(10, 0, v), an(11, 2, w), a(12, 2), a(13, 0)}
	for _, x := range []struct {
		when string
		keep []int
		has  []bool // which of the four are read
		n    int    // how many All gives
	}{
		{"all kept", []int{0, 1, 2, 3}, []bool{true, true, true, true}, 4},
		{"all lost", nil, []bool{false, false, false, false}, 0},
		{"the first lost", []int{3, 2, 1}, []bool{false, true, true, true}, 0},
		{"the second lost", []int{0, 2, 3}, []bool{true, false, true, true}, 1},
		{"the third lost", []int{0, 1, 3}, []bool{true, true, false, true}, 2},
		{"the last lost", []int{0, 1, 2}, []bool{true, true, true, false}, 3},
		{"the third kept", []int{2}, []bool{false, false, true, false}, 0},
	} {
		l, d := opened(t, c, 10, 1)
		image(t, l, 0, v, 10)
		image(t, l, 2, w, 11)
		commit(t, l, 12)
		commit(t, l, 13)
		d.Crash(x.keep...)
		stands(t, l, 10, 14, 10)
		for i, has := range x.has {
			if has {
				reads(t, l, all[i])
			} else {
				noRead(t, l, all[i].Position, api.ErrRecord)
			}
		}
		if got := records(t, l); !slices.Equal(got, all[:x.n]) {
			t.Errorf("%s: All: %+v", x.when, got)
		}
	}
}

func TestP9_7_TheRecordOfAnEarlierLap(t *testing.T) {
	// A slot that is used again, whose new record is lost: the earlier lap's record stands there.
	for _, c := range whole() {
		l, d := opened(t, c, 50, 1)
		for n := range c.LogCap {
			commit(t, l, 50+uint64(n))
		}
		mark(t, l, 51)
		free(t, l, 1)
		p := 50 + uint64(c.LogCap)
		image(t, l, 0, api.Value{8}, p)
		reads(t, l, an(p, 0, api.Value{8}))
		d.Crash()
		if b, _ := d.Read(sectorOf(c, p)); !bytes.Equal(b, laidCommit(50, 0)) {
			t.Fatalf("%+v: the slot: % x", c, b)
		}
		noRead(t, l, p, api.ErrRecord)
		noRead(t, l, 50, api.ErrRing)
		if got := records(t, l); len(got) != c.LogCap-1 {
			t.Fatalf("%+v: All: %+v", c, got)
		}
	}
}

func TestP9_7_LostSuperblocksHideNoRecord(t *testing.T) {
	c := usual()
	l, d := opened(t, c, 10, 1)
	commit(t, l, 10)
	commit(t, l, 11)
	mark(t, l, 11)
	d.Crash(0, 1)
	stands(t, l, 10, 12, 11)
	if got := records(t, l); !slices.Equal(got, []record.Record{a(10, 0), a(11, 0)}) {
		t.Errorf("All: %+v", got)
	}
	wrote(t, d, 0, bytes.Repeat([]byte{9}, 64))
	if got := records(t, l); len(got) != 2 {
		t.Errorf("behind a spoilt superblock: %+v", got)
	}
}

func TestP9_7_AllTellsTheLogAsItIsRangedOver(t *testing.T) {
	c := usual()
	l, d := opened(t, c, 10, 1)
	all := l.All()
	if all == nil {
		t.Fatal("All is nil")
	}
	gives := func(want ...record.Record) {
		t.Helper()
		var got []record.Record
		for p, r := range all {
			if p != r.Position {
				t.Fatalf("%+v at %d", r, p)
			}
			got = append(got, r)
		}
		if !slices.Equal(got, want) {
			t.Fatalf("All: %+v, want %+v", got, want)
		}
	}
	gives()
	image(t, l, 1, api.Value{2}, 10)
	gives(an(10, 1, api.Value{2}))
	commit(t, l, 11)
	gives(an(10, 1, api.Value{2}), a(11, 1))
	gives(an(10, 1, api.Value{2}), a(11, 1))
	mark(t, l, 11)
	gives(an(10, 1, api.Value{2}), a(11, 1))
	free(t, l, 1)
	gives(a(11, 1))
	commit(t, l, 12)
	d.Crash()
	gives(a(11, 1))
	wrote(t, d, sectorOf(c, 12), laidCommit(12, 2))
	gives(a(11, 1), a(12, 2))
	wrote(t, d, sectorOf(c, 11), make([]byte, 64))
	gives()
}

func TestP9_7_AllEndsWhenOneHasEnough(t *testing.T) {
	c := config(3, 6, 2, 4, 1)
	l, _ := opened(t, c, 10, 1)
	for n := range 6 {
		commit(t, l, 10+uint64(n))
	}
	all := l.All()
	for enough := 1; enough <= 6; enough++ {
		n := 0
		// Called by hand, so that a step too many is seen and not caught by the loop.
		all(func(p uint64, r record.Record) bool {
			if p != 10+uint64(n) || r != a(p, 0) {
				t.Fatalf("%d: %+v", p, r)
			}
			n++
			return n < enough
		})
		if n != enough {
			t.Errorf("%d wanted, %d given", enough, n)
		}
	}
	n := 0
	for range all {
		for range all {
			n++
		}
	}
	if n != 36 {
		t.Errorf("a loop within a loop: %d steps", n)
	}
}

func TestP9_7_AllChangesNothing(t *testing.T) {
	l, d := opened(t, usual(), 10, 1)
	image(t, l, 0, api.Value{1}, 10)
	l.Flush()
	image(t, l, 1, api.Value{2}, 11)
	mark(t, l, 11)
	was := tells(d)
	records(t, l)
	for range l.All() {
		break
	}
	l.Read(10)
	l.Read(99)
	stands(t, l, 10, 12, 11)
	if !tells(d).same(was) {
		t.Error("reading changed the disk")
	}
	noImage(t, l, 1, api.ErrRecord)
	commit(t, l, 12)
	reads(t, l, a(12, 2))
}

func TestP9_8_NilLog(t *testing.T) {
	var l *wal.Log
	stands(t, l, 0, 0, 0)
	noHandle(t, l)
	if l.Over(nil) != nil || l.Over(blank(t, 8)) != nil {
		t.Error("Over of a nil log is a log")
	}
}

// noHandle fails, if a call that works on the disk does not answer ErrHandle, whatever it is given, or All gives something.
func noHandle(t *testing.T, l *wal.Log) {
	t.Helper()
	for _, block := range append(noBlocks(3), 0, 1, 2) {
		noImage(t, l, block, api.ErrHandle)
	}
	noCommit(t, l, api.ErrHandle)
	if n, e := l.Flush(); n != 0 || e != api.ErrHandle {
		t.Errorf("Flush: %d, %d", n, e)
	}
	if n, e := l.Free(); n != 0 || e != api.ErrHandle {
		t.Errorf("Free: %d, %d", n, e)
	}
	for _, p := range []uint64{0, 1, 9, 10, 11, 12, most, most + 1, math.MaxUint64} {
		noRead(t, l, p, api.ErrHandle)
		if e := l.Mark(p); e != api.ErrHandle {
			t.Errorf("Mark(%d): %d", p, e)
		}
	}
	all := l.All()
	if all == nil {
		t.Fatal("All is nil")
	}
	for p, r := range all {
		t.Errorf("All: %+v at %d", r, p)
	}
}

func TestP9_8_OverNoDisk(t *testing.T) {
	for _, full := range []bool{false, true} {
		l, d := opened(t, usual(), 10, 1)
		image(t, l, 1, api.Value{1}, 10)
		commit(t, l, 11)
		mark(t, l, 11)
		end := uint64(12)
		if full {
			commit(t, l, 12)
			commit(t, l, 13)
			end = 14
		}
		was := tells(d)
		none := l.Over(nil)
		stands(t, none, 10, end, 11)
		noHandle(t, none)
		stands(t, none, 10, end, 11)
		stands(t, l, 10, end, 11)
		if !tells(d).same(was) {
			t.Error("a log over no disk has changed one")
		}
		// Back over a disk it is the log that it was.
		back := none.Over(d)
		stands(t, back, 10, end, 11)
		reads(t, back, a(11, 1))
		free(t, back, 1)
		stands(t, back, 11, end, 11)
		stands(t, none, 10, end, 11)
		stands(t, l, 10, end, 11)
	}
	last, _ := opened(t, usual(), most, 1)
	noHandle(t, last.Over(nil))
	stands(t, last.Over(nil), most, most, most)
	if none := last.Over(nil).Over(nil); none == nil {
		t.Error("Over twice is no log")
	} else {
		noHandle(t, none)
	}
}

func TestP9_8_OverACopy(t *testing.T) {
	c := config(5, 8, 3, 8, 1)
	l, d := opened(t, c, 10, 6)
	image(t, l, 1, api.Value{1}, 10)
	twinDisk := d.Copy()
	twin := l.Over(twinDisk)
	stands(t, twin, 10, 11, 10)
	// The transaction that is being written goes on in both.
	noImage(t, twin, 1, api.ErrRecord)
	image(t, twin, 2, api.Value{2}, 11)
	image(t, twin, 4, api.Value{3}, 12)
	commit(t, twin, 13)
	stands(t, l, 10, 11, 10)
	noRead(t, l, 11, api.ErrRing)
	commit(t, l, 11)
	reads(t, l, a(11, 1))
	reads(t, twin, an(11, 2, api.Value{2}))
	reads(t, twin, a(13, 3))
	mark(t, twin, 12)
	stands(t, l, 10, 12, 10)
	free(t, twin, 2)
	stands(t, twin, 12, 14, 12)
	stands(t, l, 10, 12, 10)
	free(t, l, 0)
	stands(t, l, 10, 12, 10)
	if b, _ := d.Read(0); !bytes.Equal(b, make([]byte, 64)) {
		t.Errorf("this disk's superblock: % x", b)
	}
	if b, _ := twinDisk.Read(0); !bytes.Equal(b, laidSuper(c, 12, 6)) {
		t.Errorf("that disk's superblock: % x", b)
	}
	d.Crash()
	reads(t, twin, a(13, 3))
	if got := records(t, twin); len(got) != 2 {
		t.Errorf("All of the twin: %+v", got)
	}
	if got := records(t, l); !slices.Equal(got, []record.Record{an(10, 1, api.Value{1}), a(11, 1)}) {
		t.Errorf("All: %+v", got)
	}
}

func TestP9_8_OverTheSameDisk(t *testing.T) {
	c := usual()
	l, d := opened(t, c, 10, 1)
	image(t, l, 0, api.Value{1}, 10)
	twin := l.Over(d)
	commit(t, twin, 11)
	stands(t, l, 10, 11, 10)
	noRead(t, l, 11, api.ErrRing)
	// Through the disk the one sees what the other has written at the same position.
	image(t, l, 2, api.Value{7}, 11)
	reads(t, twin, an(11, 2, api.Value{7}))
	reads(t, l, an(11, 2, api.Value{7}))
	if n, e := twin.Flush(); n != 3 || e != api.OK {
		t.Errorf("Flush: %d, %d", n, e)
	}
	if n, e := l.Flush(); n != 0 || e != api.OK {
		t.Errorf("Flush behind the other's: %d, %d", n, e)
	}
	mark(t, twin, 12)
	stands(t, l, 10, 12, 10)
	free(t, l, 0)
	stands(t, twin, 10, 12, 12)
	if len(d.Waiting()) != 0 {
		t.Error("a write waits")
	}
	free(t, twin, 2)
	stands(t, l, 10, 12, 10)
	// The images of each are its own.
	commit(t, l, 12)
	reads(t, l, a(12, 2))
	commit(t, twin, 12)
	reads(t, l, a(12, 0))
}

func TestP9_8_OverADiskWithOtherRecords(t *testing.T) {
	c := usual()
	l, _ := opened(t, c, 10, 1)
	commit(t, l, 10)
	commit(t, l, 11)
	other := blank(t, sectors(c))
	twin := l.Over(other)
	noRead(t, twin, 10, api.ErrRecord)
	if len(records(t, twin)) != 0 || len(other.Waiting()) != 0 {
		t.Error("records went with the log")
	}
	wrote(t, other, sectorOf(c, 10), laidCommit(10, 1))
	reads(t, twin, a(10, 1))
	reads(t, l, a(10, 0))
	commit(t, twin, 12)
	if w := other.Waiting(); len(w) != 2 || w[1].Sector != sectorOf(c, 12) {
		t.Errorf("%+v wait", w)
	}
}

func TestP9_8_OverADiskOfAnotherLength(t *testing.T) {
	// No run comes there: that each call ends, and that a refused one has changed nothing, is all that is asked.
	c := usual()
	short, _ := opened(t, c, 10, 1)
	short = short.Over(blank(t, 1))
	noImage(t, short, 0, api.ErrSector)
	noCommit(t, short, api.ErrSector)
	stands(t, short, 10, 10, 10)
	for _, n := range []int{1, 4, 5, 7, 9, 4096} {
		l, _ := opened(t, c, 10, 1)
		commit(t, l, 10)
		d := blank(t, n)
		twin := l.Over(d)
		for range 6 {
			was := tells(d)
			tail, end, marked := twin.Tail(), twin.End(), twin.Marked()
			if p, e := twin.Image(1, api.Value{1}); e != api.OK && (p != 0 || !tells(d).same(was) || twin.End() != end) {
				t.Fatalf("%d sectors: a refused Image: %d, %d", n, p, e)
			}
			was, end = tells(d), twin.End()
			if p, e := twin.Commit(); e != api.OK && (p != 0 || !tells(d).same(was) || twin.End() != end) {
				t.Fatalf("%d sectors: a refused Commit: %d, %d", n, p, e)
			}
			was, end = tells(d), twin.End()
			if e := twin.Mark(end); e != api.OK && (!tells(d).same(was) || twin.Marked() != marked || twin.Tail() != tail) {
				t.Fatalf("%d sectors: a refused Mark: %d", n, e)
			}
			for p := tail; p <= end; p++ {
				if r, e := twin.Read(p); e != api.OK && r != (record.Record{}) {
					t.Fatalf("%d sectors: Read: %+v, %d", n, r, e)
				}
			}
			records(t, twin)
			twin.Free()
		}
		stands(t, l, 10, 11, 10)
	}
}

// model is a log and its disk in the document's words: the one that the runs below are held against.
type model struct {
	c                     api.Config
	life, tail, end, mark uint64
	blocks                []int // of the images of the transaction that is being written
	appended              map[uint64]record.Record
	disk                  *sector.Disk
}

func (m *model) image(block int, v api.Value) (uint64, api.Errno) {
	switch {
	case m.end == most:
		return 0, api.ErrWrap
	case m.end-m.tail == uint64(m.c.LogCap):
		return 0, api.ErrFull
	case block < 0 || block > m.c.Blocks-1 || len(m.blocks) == m.c.MaxRes:
		return 0, api.ErrRecord
	case len(m.blocks) > 0 && block <= slices.Max(m.blocks):
		return 0, api.ErrRecord
	}
	m.disk.Write(sectorOf(m.c, m.end), laidImage(m.end, block, v))
	m.appended[m.end] = an(m.end, block, v)
	m.blocks = append(m.blocks, block)
	m.end++
	return m.end - 1, api.OK
}

func (m *model) commit() (uint64, api.Errno) {
	switch {
	case m.end == most:
		return 0, api.ErrWrap
	case m.end-m.tail == uint64(m.c.LogCap):
		return 0, api.ErrFull
	}
	m.disk.Write(sectorOf(m.c, m.end), laidCommit(m.end, len(m.blocks)))
	m.appended[m.end] = a(m.end, len(m.blocks))
	m.blocks = nil
	m.end++
	return m.end - 1, api.OK
}

func (m *model) marks(target uint64) api.Errno {
	if target < m.tail || target > m.end {
		return api.ErrInput
	}
	m.disk.Write(0, laidSuper(m.c, target, m.life))
	m.mark = target
	return api.OK
}

func (m *model) free() int {
	m.disk.Flush()
	n := int(m.mark - m.tail)
	m.tail = m.mark
	return n
}

// target tells a position near the log, in it more often than not.
func (m *model) target(ch *chance) uint64 {
	return m.tail + ch.next()%(m.end-m.tail+3) - 1
}

// block tells a number near the blocks, a next one of the transaction more often than not.
func (m *model) block(ch *chance) int {
	if n := len(m.blocks); n > 0 && ch.below(3) > 0 {
		return m.blocks[n-1] + 1 + ch.below(2)
	}
	return ch.below(m.c.Blocks+2) - 1
}

// step does one call on the log and on the model, and fails if they answer differently.
func (m *model) step(t *testing.T, l *wal.Log, ch *chance) {
	t.Helper()
	switch ch.below(10) {
	case 0, 1, 2, 3:
		block, v := m.block(ch), ch.value()
		p, e := l.Image(block, v)
		if q, f := m.image(block, v); p != q || e != f {
			t.Fatalf("Image(%d): %d, %d, want %d, %d", block, p, e, q, f)
		}
	case 4, 5:
		p, e := l.Commit()
		if q, f := m.commit(); p != q || e != f {
			t.Fatalf("Commit: %d, %d, want %d, %d", p, e, q, f)
		}
	case 6, 7:
		target := m.target(ch)
		if e, f := l.Mark(target), m.marks(target); e != f {
			t.Fatalf("Mark(%d): %d, want %d", target, e, f)
		}
	case 8:
		want, _ := m.disk.Flush()
		if n, e := l.Flush(); n != want || e != api.OK {
			t.Fatalf("Flush: %d, %d, want %d", n, e, want)
		}
	case 9:
		free(t, l, m.free())
	}
}

// holds fails, if the log or its disk is not the model's.
func (m *model) holds(t *testing.T, l *wal.Log, d *sector.Disk) {
	t.Helper()
	stands(t, l, m.tail, m.end, m.mark)
	if l.Used() < 0 || l.Used() > m.c.LogCap {
		t.Fatalf("%+v: Used %d", m.c, l.Used())
	}
	if !tells(d).same(tells(m.disk)) {
		t.Fatalf("%+v: another disk than the document's", m.c)
	}
	var want []record.Record
	for p := m.tail; p < m.end; p++ {
		want = append(want, m.appended[p])
		reads(t, l, m.appended[p])
	}
	if got := records(t, l); !slices.Equal(got, want) {
		t.Fatalf("%+v: All: %+v, want %+v", m.c, got, want)
	}
}

// begins tells a log over a disk, and its model.
func begins(t *testing.T, c api.Config, tail, life uint64) (*wal.Log, *sector.Disk, *model) {
	t.Helper()
	l, d := opened(t, c, tail, life)
	m := &model{c: c, life: life, tail: tail, end: tail, mark: tail, appended: map[uint64]record.Record{}, disk: blank(t, sectors(c))}
	return l, d, m
}

func TestP9_9_And_9_10_AllRuns(t *testing.T) {
	ch := chance(17)
	for _, c := range whole() {
		for _, tail := range []uint64{0, uint64(c.LogCap) - 1, 123456789, most - 3*uint64(c.LogCap)} {
			l, d, m := begins(t, c, tail, 1+ch.next()%100)
			for range 200 + 20*c.LogCap {
				m.step(t, l, &ch)
				m.holds(t, l, d)
			}
			if m.end < tail+2*uint64(c.LogCap) {
				t.Errorf("%+v: the run did not go round the log: %d positions", c, m.end-tail)
			}
		}
	}
}

func TestP9_9_PositionsOneByOne(t *testing.T) {
	for _, c := range whole() {
		l, _ := opened(t, c, 3, 1)
		next := uint64(3)
		for range 5 {
			for l.Used() < c.LogCap {
				if l.Used()%2 == 0 && l.Used()+1 < c.LogCap {
					image(t, l, c.Blocks-1, api.Value{}, next)
				} else {
					commit(t, l, next)
				}
				next++
			}
			noCommit(t, l, api.ErrFull)
			mark(t, l, next)
			free(t, l, c.LogCap)
		}
		stands(t, l, 3+5*uint64(c.LogCap), 3+5*uint64(c.LogCap), next)
	}
}

func TestP9_9_RefusedCallsChangeNothing(t *testing.T) {
	ch := chance(29)
	for _, c := range whole() {
		for _, tail := range []uint64{5, most - 5} {
			l, d, m := begins(t, c, tail, 1)
			for range 100 {
				m.step(t, l, &ch)
				was := tells(d)
				refuseAll(t, l, m)
				if !tells(d).same(was) {
					t.Fatalf("%+v: a refused call wrote", c)
				}
				m.holds(t, l, d)
			}
		}
	}
}

// refuseAll does calls that are refused of any log, and those that are of this one.
func refuseAll(t *testing.T, l *wal.Log, m *model) {
	t.Helper()
	for _, block := range append(noBlocks(m.c.Blocks), m.blocks...) {
		if p, e := l.Image(block, api.Value{1}); p != 0 || e == api.OK {
			t.Fatalf("Image(%d): %d, %d", block, p, e)
		}
	}
	for _, target := range []uint64{m.tail - 1, m.end + 1, math.MaxUint64} {
		if e := l.Mark(target); e != api.ErrInput {
			t.Fatalf("Mark(%d): %d", target, e)
		}
	}
	for _, p := range []uint64{m.tail - 1, m.end, m.end + 1, math.MaxUint64} {
		noRead(t, l, p, api.ErrRing)
	}
	if m.end == most || m.end-m.tail == uint64(m.c.LogCap) {
		if p, e := l.Commit(); p != 0 || e == api.OK {
			t.Fatalf("Commit: %d, %d", p, e)
		}
	}
}

func TestP9_10_OverACopy(t *testing.T) {
	ch := chance(31)
	for _, c := range whole() {
		l, d, m := begins(t, c, 9, 2)
		for range 12 {
			for range 15 {
				m.step(t, l, &ch)
			}
			// From here on the first log stays, and its copy goes on.
			first, firstDisk := l, d
			was := tells(d)
			tail, end, marked := l.Tail(), l.End(), l.Marked()
			list := records(t, l)
			d = d.Copy()
			l = l.Over(d)
			m.holds(t, l, d)
			for range 15 {
				m.step(t, l, &ch)
				m.holds(t, l, d)
			}
			stands(t, first, tail, end, marked)
			if !slices.Equal(records(t, first), list) || !tells(firstDisk).same(was) {
				t.Fatalf("%+v: the first log saw the other one", c)
			}
		}
	}
}

func TestP9_10_BehindAFlushAndACrashTheSame(t *testing.T) {
	ch := chance(37)
	for _, c := range whole() {
		l, d, m := begins(t, c, 1, 1)
		for range 30 {
			for range 8 {
				m.step(t, l, &ch)
			}
			l.Flush()
			m.disk.Flush()
			d.Crash()
			m.holds(t, l, d)
		}
	}
}

func TestP9_11_BehindMarkAndFree(t *testing.T) {
	ch := chance(41)
	for _, c := range whole() {
		for _, life := range []uint64{1, most} {
			l, d, m := begins(t, c, most-uint64(4*c.LogCap), life)
			for range 40 {
				for range 6 {
					m.step(t, l, &ch)
				}
				target := m.tail + ch.next()%(m.end-m.tail+1)
				mark(t, l, target)
				m.marks(target)
				free(t, l, m.free())
				if len(d.Waiting()) != 0 || !bytes.Equal(d.Image()[:64], laidSuper(c, target, life)) {
					t.Fatalf("%+v: %d wait; the superblock: % x", c, len(d.Waiting()), d.Image()[:64])
				}
				s, e := super.Decode(d.Image()[:64])
				if e != api.OK || s != (super.Super{Config: c, Tail: l.Marked(), Life: life}) || l.Tail() != target {
					t.Fatalf("%+v: %+v, %d", c, s, e)
				}
				d.Crash()
				m.holds(t, l, d)
			}
		}
	}
}

func TestP9_11_CallsBetweenMarkAndFree(t *testing.T) {
	// The log's own calls come between as they may.
	c := config(3, 8, 2, 4, 1)
	l, d := opened(t, c, 10, 5)
	commit(t, l, 10)
	mark(t, l, 11)
	image(t, l, 1, api.Value{1}, 11)
	commit(t, l, 12)
	free(t, l, 1)
	if len(d.Waiting()) != 0 || !bytes.Equal(d.Image()[:64], laidSuper(c, 11, 5)) {
		t.Error("the mark is not durable")
	}
	d.Crash()
	if got := records(t, l); !slices.Equal(got, []record.Record{an(11, 1, api.Value{1}), a(12, 1)}) {
		t.Errorf("All: %+v", got)
	}
}

func TestR3_AnImagesValueIsTheDisksOwn(t *testing.T) {
	c := usual()
	l, d := opened(t, c, 10, 1)
	v := api.Value{1, 31: 2}
	image(t, l, 1, v, 10)
	v[0] = 99
	for _, w := range d.Waiting() {
		clear(w.Data)
	}
	b, _ := d.Read(sectorOf(c, 10))
	clear(b)
	r, _ := l.Read(10)
	r.Value[5] = 99
	for _, r := range l.All() {
		r.Value[6] = 99
	}
	reads(t, l, an(10, 1, api.Value{1, 31: 2}))
}

func TestR5_LogsOfTheirOwn(t *testing.T) {
	c := usual()
	first, _ := opened(t, c, 10, 1)
	image(t, first, 2, api.Value{1}, 10)
	mark(t, first, 11)
	second, d := opened(t, c, 10, 1)
	stands(t, second, 10, 10, 10)
	image(t, second, 0, api.Value{2}, 10)
	commit(t, second, 11)
	if len(d.Waiting()) != 2 {
		t.Errorf("%d wait", len(d.Waiting()))
	}
	stands(t, first, 10, 11, 11)
	reads(t, first, an(10, 2, api.Value{1}))
	// Two logs over one disk begin alike.
	third, e := wal.Open(d, c, 10, 1)
	if e != api.OK {
		t.Fatal(e)
	}
	stands(t, third, 10, 10, 10)
	commit(t, third, 10)
	reads(t, third, a(10, 0))
	reads(t, second, a(10, 0))
}

func TestExample1(t *testing.T) {
	d := blank(t, 8)
	l, e := wal.Open(d, usual(), 10, 1)
	if e != api.OK {
		t.Fatal(e)
	}
	stands(t, l, 10, 10, 10)
	v, w := api.Value{1}, api.Value{2}
	image(t, l, 0, v, 10)
	image(t, l, 2, w, 11)
	noImage(t, l, 1, api.ErrRecord)
	noImage(t, l, 2, api.ErrRecord)
	commit(t, l, 12)
	reads(t, l, a(12, 2))
	var at []int
	for _, w := range d.Waiting() {
		at = append(at, w.Sector)
	}
	if !slices.Equal(at, []int{6, 7, 4}) {
		t.Errorf("the sectors %v", at)
	}
}

func TestExample2And3(t *testing.T) {
	l, _ := opened(t, usual(), 10, 1)
	image(t, l, 0, api.Value{1}, 10)
	image(t, l, 2, api.Value{2}, 11)
	commit(t, l, 12)
	commit(t, l, 13)
	stands(t, l, 10, 14, 10)
	noCommit(t, l, api.ErrFull)
	noImage(t, l, 0, api.ErrFull)
	mark(t, l, 13)
	free(t, l, 3)
	stands(t, l, 13, 14, 13)
	for _, target := range []uint64{9, 15} {
		if e := l.Mark(target); e != api.ErrInput {
			t.Errorf("Mark(%d): %d", target, e)
		}
	}
	reads(t, l, a(13, 0))
	noRead(t, l, 12, api.ErrRing)
	noRead(t, l, 14, api.ErrRing)
}

func TestExample4(t *testing.T) {
	l, e := wal.Open(blank(t, 8), usual(), most, 1)
	if e != api.OK {
		t.Fatal(e)
	}
	noCommit(t, l, api.ErrWrap)
	notOpened(t, blank(t, 8), usual(), 10, 0, api.ErrInput)
	notOpened(t, nil, usual(), 10, 1, api.ErrHandle)
	notOpened(t, blank(t, 9), usual(), 10, 1, api.ErrSector)
}
