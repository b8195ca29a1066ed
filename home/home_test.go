package home_test

import (
	"bytes"
	"hash/crc32"
	"math"
	"slices"
	"testing"

	"wicket/api"
	"wicket/home"
	"wicket/sector"
	"wicket/super"
)

// spare is how many bytes lie behind a list that roomy makes.
const spare = 100

// filler is the byte in that room, which nobody may touch.
const filler = 0xa5

// roomy tells the same bytes with spare room behind them.
func roomy(b []byte) []byte {
	l := append(bytes.Clone(b), bytes.Repeat([]byte{filler}, spare)...)
	return l[:len(b)]
}

// keeps tells whether bytes made by roomy still are as they were made, spare room too.
func keeps(l, was []byte) bool {
	return bytes.Equal(l, was) && bytes.Equal(l[len(l):len(l)+spare], bytes.Repeat([]byte{filler}, spare))
}

// scrawl writes over bytes, spare room too.
func scrawl(l []byte) {
	l = l[:cap(l)]
	for i := range l {
		l[i] = 0x99
	}
}

// chance tells numbers that look like chance and are the same in each run.
type chance uint64

func (c *chance) next() uint64 {
	*c ^= *c << 13
	*c ^= *c >> 7
	*c ^= *c << 17
	return uint64(*c)
}

// value tells one of all bytes.
func (c *chance) value() api.Value {
	var v api.Value
	for i := range v {
		v[i] = byte(c.next())
	}
	return v
}

// summed tells 64 bytes: those given, zeros up to byte 59, and their sum, reckoned by another hand than the layer's.
func summed(b ...byte) []byte {
	all := make([]byte, 64)
	copy(all[:60], b)
	s := crc32.ChecksumIEEE(all[:60])
	for i := range 4 {
		all[60+i] = byte(s >> (8 * i))
	}
	return all
}

// laid tells the chapter's 64 bytes of a home, byte by byte.
func laid(block int, v api.Value) []byte {
	b := make([]byte, 60)
	copy(b, []byte{0x48, 0x4f, 0x4d, 0x45, 1})
	b[5] = byte(block)
	for i, x := range v {
		b[28+i] = x
	}
	return summed(b...)
}

// rewritten tells a home's bytes with the byte at set to x, and the sum that is right for them.
func rewritten(block int, v api.Value, at int, x byte) []byte {
	b := laid(block, v)[:60]
	b[at] = x
	return summed(b...)
}

// config tells a configuration of its parts, in their order.
func config(blocks, logCap, maxRes, high, clients int) api.Config {
	return api.Config{Blocks: blocks, LogCap: logCap, MaxRes: maxRes, High: high, Clients: clients}
}

// usual is the configuration of the chapter's examples.
func usual() api.Config {
	return config(2, 3, 1, 1, 1)
}

// whole tells configurations that may be: the fewest and the most blocks and slots among them.
func whole() []api.Config {
	return []api.Config{
		usual(),
		config(1, 2, 1, 1, 1), config(1, 2, 1, 2, 8), config(1, 64, 1, 64, 8),
		config(64, 2, 1, 2, 8), config(64, 64, 16, 64, 8), config(64, 64, 1, 1, 1),
		config(8, 16, 4, 12, 3), config(16, 17, 16, 17, 1), config(5, 6, 5, 6, 7), config(63, 63, 7, 9, 2),
	}
}

// lost tells configurations that may not be, by one part each.
func lost() []api.Config {
	return []api.Config{
		{},
		config(0, 3, 1, 1, 1), config(-1, 3, 1, 1, 1), config(65, 3, 1, 1, 1), config(math.MaxInt, 3, 1, 1, 1), config(math.MinInt, 3, 1, 1, 1),
		config(2, 1, 1, 1, 1), config(2, 0, 1, 1, 1), config(2, -1, 1, 1, 1), config(2, 65, 1, 1, 1), config(2, math.MaxInt, 1, 1, 1), config(2, math.MinInt, 1, 1, 1),
		config(2, 3, 0, 1, 1), config(2, 3, -1, 1, 1), config(2, 3, 3, 1, 1), config(64, 64, 17, 1, 1), config(64, 3, 3, 1, 1), config(2, 3, math.MaxInt, 1, 1),
		config(2, 3, 1, 0, 1), config(2, 3, 1, -1, 1), config(2, 3, 1, 4, 1), config(2, 3, 1, math.MaxInt, 1),
		config(2, 3, 1, 1, 0), config(2, 3, 1, 1, -1), config(2, 3, 1, 1, 9), config(2, 3, 1, 1, math.MaxInt),
		config(math.MaxInt, math.MaxInt, 1, 1, 1), config(math.MinInt, math.MinInt, 1, 1, 1),
	}
}

// noBlocks tells numbers that are none of so many blocks.
func noBlocks(blocks int) []int {
	return []int{math.MinInt, math.MinInt + 1, -1 << 32, -257, -256, -64, -2, -1, blocks, blocks + 1, 255, 256, 257, 320, 1 << 32, 1<<32 + 1, math.MaxInt - 1, math.MaxInt}
}

// values tells some: all bytes the same, each byte another one, and one byte alone at each place.
func values() []api.Value {
	var rising, all api.Value
	for i := range rising {
		rising[i] = byte(i + 1)
		all[i] = 255
	}
	list := []api.Value{{}, rising, all}
	for i := range 32 {
		var low, high api.Value
		low[i], high[i] = 1, 128
		list = append(list, low, high)
	}
	c := chance(11)
	for range 20 {
		list = append(list, c.value())
	}
	return list
}

// few tells a few homes: blocks with their values.
func few() []api.Image {
	c := chance(5)
	return []api.Image{
		{Block: 0}, {Block: 63}, {Block: 2}, {Block: 1, Value: values()[1]}, {Block: 0, Value: values()[2]},
		{Block: 63, Value: c.value()}, {Block: 31, Value: c.value()}, {Block: 32, Value: c.value()},
	}
}

// encode tells Encode where there is no error.
func encode(t *testing.T, block int, v api.Value) []byte {
	t.Helper()
	b, e := home.Encode(block, v)
	if e != api.OK {
		t.Fatalf("Encode(%d, %x): %d", block, v, e)
	}
	return b
}

// refused fails, if Decode does not answer this error alone.
func refused(t *testing.T, b []byte, block int, want api.Errno) {
	t.Helper()
	if v, e := home.Decode(b, block); e != want || v != (api.Value{}) {
		t.Fatalf("Decode(% x, %d): %x, %d, want error %d", b, block, v, e, want)
	}
}

// made tells a new disk.
func made(t *testing.T, c api.Config) *sector.Disk {
	t.Helper()
	d, e := home.New(c)
	if d == nil || e != api.OK {
		t.Fatalf("New(%+v): %d", c, e)
	}
	return d
}

// blank tells a disk of zeros.
func blank(t *testing.T, sectors int) *sector.Disk {
	t.Helper()
	d, e := sector.New(sectors)
	if d == nil || e != api.OK {
		t.Fatalf("sector.New(%d): %d", sectors, e)
	}
	return d
}

// saved does a Save that is taken.
func saved(t *testing.T, d *sector.Disk, c api.Config, block int, v api.Value) {
	t.Helper()
	if e := home.Save(d, c, block, v); e != api.OK {
		t.Fatalf("Save(%+v, %d): %d", c, block, e)
	}
}

// wrote does a write that is taken.
func wrote(t *testing.T, d *sector.Disk, n int, b []byte) {
	t.Helper()
	if e := d.Write(n, b); e != api.OK {
		t.Fatalf("Write(%d, %d bytes): %d", n, len(b), e)
	}
}

// reads fails, if Load, block by block, and All do not answer these values.
func reads(t *testing.T, when string, d *sector.Disk, c api.Config, want []api.Value) {
	t.Helper()
	for block, v := range want {
		if got, e := home.Load(d, c, block); e != api.OK || got != v {
			t.Fatalf("%s: Load(%+v, %d): %x, %d, want %x", when, c, block, got, e, v)
		}
	}
	if got, e := home.All(d, c); e != api.OK || !slices.Equal(got, want) {
		t.Fatalf("%s: All(%+v): %x, %d, want %x", when, c, got, e, want)
	}
}

// told is all that a disk tells, to be held against later.
type told struct {
	image   []byte
	waiting []sector.Write
}

func tells(d *sector.Disk) told {
	return told{d.Image(), d.Waiting()}
}

// same tells whether two disks have told the same.
func (a told) same(b told) bool {
	return bytes.Equal(a.image, b.image) && slices.EqualFunc(a.waiting, b.waiting, func(x, y sector.Write) bool {
		return x.Sector == y.Sector && bytes.Equal(x.Data, y.Data)
	})
}

// onDisk calls f with the error of each call that is handed a disk and a configuration; each other answer must be zero beside one.
func onDisk(t *testing.T, d *sector.Disk, c api.Config, block int, f func(call string, e api.Errno)) {
	t.Helper()
	f("Save", home.Save(d, c, block, api.Value{1, 31: 2}))
	v, e := home.Load(d, c, block)
	if e != api.OK && v != (api.Value{}) {
		t.Fatalf("Load(%+v, %d): error %d, and %x", c, block, e, v)
	}
	f("Load", e)
	l, e := home.All(d, c)
	if e != api.OK && len(l) != 0 {
		t.Fatalf("All(%+v): error %d, and %x", c, e, l)
	}
	f("All", e)
}

func TestP8_1_EncodesTheBytes(t *testing.T) {
	for block := range 64 {
		for _, v := range values() {
			if b := encode(t, block, v); !bytes.Equal(b, laid(block, v)) {
				t.Fatalf("Encode(%d, %x): % x, want % x", block, v, b, laid(block, v))
			}
		}
	}
}

func TestP8_1_NoBlock(t *testing.T) {
	for _, block := range noBlocks(64) {
		for _, v := range []api.Value{{}, {7}} {
			if b, e := home.Encode(block, v); len(b) != 0 || e != api.ErrBlock {
				t.Errorf("Encode(%d): % x, %d, want ErrBlock", block, b, e)
			}
		}
	}
	for _, block := range []int{0, 1, 63} {
		if b, e := home.Encode(block, api.Value{}); len(b) != 64 || e != api.OK {
			t.Errorf("Encode(%d): % x, %d", block, b, e)
		}
	}
}

func TestP8_2_DecodesTheBytes(t *testing.T) {
	for block := range 64 {
		for _, v := range values() {
			if got, e := home.Decode(laid(block, v), block); e != api.OK || got != v {
				t.Fatalf("Decode(% x, %d): %x, %d, want %x", laid(block, v), block, got, e, v)
			}
		}
	}
}

func TestP8_2_NoBlock(t *testing.T) {
	// Bytes that have such a number in its one byte are no better for it.
	for _, block := range noBlocks(64) {
		refused(t, laid(block, api.Value{3}), block, api.ErrBlock)
		refused(t, laid(0, api.Value{3}), block, api.ErrBlock)
		refused(t, make([]byte, 64), block, api.ErrBlock)
	}
}

func TestP8_2_NotSixtyFourBytes(t *testing.T) {
	b := laid(2, api.Value{9, 31: 4})
	for _, l := range [][]byte{nil, {}, {0x48}, b[:28], b[:32], b[:59], b[:60], b[:61], b[:63], b[1:], append(bytes.Clone(b), 0), append([]byte{0}, b...), bytes.Repeat(b, 2), make([]byte, 63), make([]byte, 65), make([]byte, 4096)} {
		for _, block := range []int{0, 1, 2, 63} {
			refused(t, l, block, api.ErrInput)
		}
	}
	if v, e := home.Decode(b, 2); e != api.OK || v != (api.Value{9, 31: 4}) {
		t.Errorf("the 64 bytes themselves: %x, %d", v, e)
	}
	for block := range 64 {
		refused(t, make([]byte, 64), block, api.ErrHome)
		refused(t, summed(), block, api.ErrHome)
		refused(t, bytes.Repeat([]byte{255}, 64), block, api.ErrHome)
	}
}

func TestP8_2_BlockAheadOfLength(t *testing.T) {
	b := laid(2, api.Value{9})
	for _, block := range noBlocks(64) {
		for _, l := range [][]byte{nil, {}, b[:63], append(bytes.Clone(b), 0)} {
			refused(t, l, block, api.ErrBlock)
		}
	}
}

func TestP8_2_RightSumWrongBytes(t *testing.T) {
	for _, h := range few() {
		right := laid(h.Block, h.Value)
		for x := range 256 {
			for at := range 28 {
				if byte(x) != right[at] {
					refused(t, rewritten(h.Block, h.Value, at, byte(x)), h.Block, api.ErrHome)
				}
			}
		}
	}
}

func TestP8_2_AnotherName(t *testing.T) {
	v := api.Value{9, 31: 4}
	rest := laid(2, v)[4:60]
	for _, name := range []string{"home", "HOMe", "hOME", "Home", "EMOH", "HOMF", "\x00\x00\x00\x00", "    ", "WICK"} {
		refused(t, summed(append([]byte(name), rest...)...), 2, api.ErrHome)
	}
	if got, e := home.Decode(summed(append([]byte("HOME"), rest...)...), 2); e != api.OK || got != v {
		t.Errorf("the name itself: %x, %d", got, e)
	}
}

func TestP8_2_AnotherVersion(t *testing.T) {
	for _, version := range []byte{0, 2, 3, 17, 129, 255} {
		for _, h := range few() {
			refused(t, rewritten(h.Block, h.Value, 4, version), h.Block, api.ErrHome)
		}
	}
}

func TestP8_2_NotBlank(t *testing.T) {
	for _, h := range few() {
		for at := 6; at < 28; at++ {
			for _, x := range []byte{1, 2, 128, 255} {
				refused(t, rewritten(h.Block, h.Value, at, x), h.Block, api.ErrHome)
			}
		}
		// Two of them that cancel out in an xor or in a sum of bytes.
		b := laid(h.Block, h.Value)[:60]
		b[6], b[27] = 128, 128
		refused(t, summed(b...), h.Block, api.ErrHome)
	}
}

func TestP8_2_AnySumButItsOwn(t *testing.T) {
	for _, h := range few() {
		b := laid(h.Block, h.Value)
		for _, n := range [][]byte{{0, 0, 0, 0}, {255, 255, 255, 255}, {b[63], b[62], b[61], b[60]}, {^b[60], ^b[61], ^b[62], ^b[63]}} {
			refused(t, append(bytes.Clone(b[:60]), n...), h.Block, api.ErrHome)
		}
		refused(t, append(bytes.Clone(b[:60]), laid(h.Block^1, h.Value)[60:]...), h.Block, api.ErrHome)
	}
}

func TestP8_2_AnotherLayersBytes(t *testing.T) {
	b, e := super.Encode(super.Super{Config: usual(), Life: 1})
	if e != api.OK {
		t.Fatal(e)
	}
	for block := range 64 {
		refused(t, b, block, api.ErrHome)
	}
}

func TestP8_3_WritesTheHome(t *testing.T) {
	for _, c := range whole() {
		d := made(t, c)
		image := d.Image()
		for i, block := range []int{0, c.Blocks / 2, c.Blocks - 1} {
			v := values()[1+i]
			saved(t, d, c, block, v)
			w := d.Waiting()
			if len(w) != i+1 || w[i].Sector != 1+block || !bytes.Equal(w[i].Data, laid(block, v)) {
				t.Fatalf("Save(%+v, %d): %+v wait", c, block, w)
			}
			if !bytes.Equal(d.Image(), image) {
				t.Fatalf("Save(%+v, %d): it did not wait", c, block)
			}
		}
	}
}

func TestP8_3_WritesWhatIsThereAlready(t *testing.T) {
	c := usual()
	d := made(t, c)
	for n := range 3 {
		saved(t, d, c, 1, api.Value{})
		if len(d.Waiting()) != n+1 {
			t.Fatalf("%d writes wait behind %d of the value that stood there", len(d.Waiting()), n+1)
		}
	}
}

func TestP8_3_TheDisksBytesAreNotAsked(t *testing.T) {
	// Whether the superblock or a home may be is nothing that Save looks at.
	for _, c := range whole() {
		d := blank(t, 1+c.Blocks+c.LogCap)
		saved(t, d, c, c.Blocks-1, api.Value{8})
		if v, e := home.Load(d, c, c.Blocks-1); e != api.OK || v != (api.Value{8}) {
			t.Errorf("Load(%+v): %x, %d", c, v, e)
		}
	}
}

func TestP8_3_To_8_5_Errors(t *testing.T) {
	for _, c := range whole() {
		sectors := 1 + c.Blocks + c.LogCap
		blocks := append(noBlocks(c.Blocks), 0, c.Blocks-1)
		for _, block := range blocks {
			for _, bad := range lost() {
				onDisk(t, nil, bad, block, wants(t, "nil, no configuration", bad, block, api.ErrHandle))
				for _, d := range []*sector.Disk{made(t, c), blank(t, 1), blank(t, 4096)} {
					onDisk(t, d, bad, block, wants(t, "no configuration", bad, block, api.ErrConfig))
				}
			}
			onDisk(t, nil, c, block, wants(t, "nil", c, block, api.ErrHandle))
			for _, n := range []int{1, c.Blocks, c.LogCap, c.Blocks + c.LogCap, sectors + 1, sectors + 2, 2 * sectors, 4096} {
				if n != sectors {
					onDisk(t, blank(t, n), c, block, wants(t, "another length", c, block, api.ErrSector))
				}
			}
		}
	}
}

// wants tells a check that fails, if a call's error is another one.
func wants(t *testing.T, what string, c api.Config, block int, want api.Errno) func(string, api.Errno) {
	return func(call string, e api.Errno) {
		t.Helper()
		if e != want {
			t.Fatalf("%s: %s(%+v, %d): %d, want %d", what, call, c, block, e, want)
		}
	}
}

func TestP8_3_And_8_4_NoBlock(t *testing.T) {
	for _, c := range whole() {
		d := made(t, c)
		was := tells(d)
		for _, block := range append(noBlocks(c.Blocks), 64, 65) {
			if e := home.Save(d, c, block, api.Value{1}); e != api.ErrBlock {
				t.Fatalf("Save(%+v, %d): %d, want ErrBlock", c, block, e)
			}
			if v, e := home.Load(d, c, block); e != api.ErrBlock || v != (api.Value{}) {
				t.Fatalf("Load(%+v, %d): %x, %d, want ErrBlock", c, block, v, e)
			}
		}
		if !tells(d).same(was) {
			t.Fatalf("%+v: refused calls have written", c)
		}
	}
}

func TestP8_4_ReadsTheNewestWrite(t *testing.T) {
	for _, c := range whole() {
		d := made(t, c)
		block := c.Blocks - 1
		for _, v := range values()[:9] {
			saved(t, d, c, block, v)
			if got, e := home.Load(d, c, block); e != api.OK || got != v {
				t.Fatalf("Load(%+v, %d): %x, %d, want %x", c, block, got, e, v)
			}
		}
	}
}

func TestP8_4_WaitsFlushedLost(t *testing.T) {
	c := config(3, 2, 1, 1, 1)
	a, b := api.Value{1}, api.Value{31: 2}
	of := func(vs ...api.Value) []api.Value { return vs }
	waiting := func() *sector.Disk {
		d := made(t, c)
		saved(t, d, c, 0, a)
		d.Flush()
		saved(t, d, c, 0, b)
		saved(t, d, c, 2, a)
		saved(t, d, c, 2, b)
		return d
	}
	for _, x := range []struct {
		when string
		do   func(d *sector.Disk)
		want []api.Value
	}{
		{"waiting", func(d *sector.Disk) {}, of(b, api.Value{}, b)},
		{"flushed", func(d *sector.Disk) { d.Flush() }, of(b, api.Value{}, b)},
		{"flushed and crashed", func(d *sector.Disk) { d.Flush(); d.Crash() }, of(b, api.Value{}, b)},
		{"all lost", func(d *sector.Disk) { d.Crash() }, of(a, api.Value{}, api.Value{})},
		{"the first kept", func(d *sector.Disk) { d.Crash(0) }, of(b, api.Value{}, api.Value{})},
		{"the older of one block kept", func(d *sector.Disk) { d.Crash(1) }, of(a, api.Value{}, a)},
		{"the newer of one block kept", func(d *sector.Disk) { d.Crash(2) }, of(a, api.Value{}, b)},
		{"all kept", func(d *sector.Disk) { d.Crash(2, 1, 0) }, of(b, api.Value{}, b)},
	} {
		d := waiting()
		x.do(d)
		reads(t, x.when, d, c, x.want)
		reads(t, x.when+", copied", d.Copy(), c, x.want)
	}
}

// spoils tells sectors that are no home of this block.
func spoils(block int, v api.Value) [][]byte {
	list := [][]byte{
		make([]byte, 64), bytes.Repeat([]byte{255}, 64), laid((block+1)%64, v), laid(64, v),
		rewritten(block, v, 0, 'h'), rewritten(block, v, 4, 0), rewritten(block, v, 4, 2), rewritten(block, v, 6, 1), rewritten(block, v, 27, 1),
	}
	for at := range 64 {
		b := laid(block, v)
		b[at] ^= 1
		list = append(list, b)
	}
	return list
}

func TestP8_4_And_8_5_HomesThatCannotBeRead(t *testing.T) {
	for _, c := range whole() {
		fresh := made(t, c)
		for _, block := range []int{0, c.Blocks / 2, c.Blocks - 1} {
			for _, b := range spoils(block, api.Value{1, 2}) {
				d := fresh.Copy()
				wrote(t, d, 1+block, b)
				unread(t, "waiting", d, c, block)
				d.Flush()
				unread(t, "durable", d, c, block)
				saved(t, d, c, block, api.Value{4})
				want := make([]api.Value, c.Blocks)
				want[block] = api.Value{4}
				reads(t, "mended", d, c, want)
				d.Crash()
				unread(t, "the mending lost", d, c, block)
			}
		}
	}
}

// unread fails, if not this home alone can't be read.
func unread(t *testing.T, when string, d *sector.Disk, c api.Config, spoilt int) {
	t.Helper()
	for block := range c.Blocks {
		v, e := home.Load(d, c, block)
		want := api.OK
		if block == spoilt {
			want = api.ErrHome
		}
		if e != want || v != (api.Value{}) {
			t.Fatalf("%s: Load(%+v, %d): %x, %d, want %d", when, c, block, v, e, want)
		}
	}
	if l, e := home.All(d, c); e != api.ErrHome || len(l) != 0 {
		t.Fatalf("%s: All(%+v): %x, %d, want ErrHome", when, c, l, e)
	}
}

func TestP8_5_AllOfThemInTheirOrder(t *testing.T) {
	ch := chance(21)
	for _, c := range whole() {
		d := made(t, c)
		want := make([]api.Value, c.Blocks)
		reads(t, "new", d, c, want)
		for block := c.Blocks - 1; block >= 0; block-- {
			want[block] = ch.value()
			saved(t, d, c, block, want[block])
		}
		reads(t, "saved", d, c, want)
		d.Flush()
		reads(t, "flushed", d, c, want)
		saved(t, d, c, 0, api.Value{})
		want[0] = api.Value{}
		reads(t, "saved again", d, c, want)
	}
}

func TestP8_5_NeitherSuperblockNorLogIsRead(t *testing.T) {
	for _, c := range whole() {
		d := made(t, c)
		wrote(t, d, 0, bytes.Repeat([]byte{7}, 64))
		for n := 1 + c.Blocks; n < d.Len(); n++ {
			wrote(t, d, n, bytes.Repeat([]byte{8}, 64))
		}
		reads(t, "all else spoilt", d, c, make([]api.Value, c.Blocks))
	}
}

func TestP8_5_ManyUnread(t *testing.T) {
	c := config(64, 64, 16, 64, 8)
	if l, e := home.All(blank(t, 129), c); e != api.ErrHome || len(l) != 0 {
		t.Errorf("All of zeros: %x, %d, want ErrHome", l, e)
	}
	d := blank(t, 129)
	for block := range 63 {
		saved(t, d, c, block, api.Value{byte(block)})
	}
	if l, e := home.All(d, c); e != api.ErrHome || len(l) != 0 {
		t.Errorf("All, the last one missing: %x, %d, want ErrHome", l, e)
	}
	saved(t, d, c, 63, api.Value{63})
	if l, e := home.All(d, c); e != api.OK || len(l) != 64 || l[63] != (api.Value{63}) {
		t.Errorf("All, none missing: %x, %d", l, e)
	}
}

// newImage tells the chapter's bytes of a new disk, sector by sector.
func newImage(c api.Config) []byte {
	b := make([]byte, 60)
	copy(b, "WICKET\x01")
	copy(b[8:], []byte{byte(c.Blocks), byte(c.LogCap), byte(c.MaxRes), byte(c.High), byte(c.Clients)})
	b[24] = 1
	image := summed(b...)
	for block := range c.Blocks {
		image = append(image, laid(block, api.Value{})...)
	}
	return append(image, make([]byte, 64*c.LogCap)...)
}

func TestP8_6_New(t *testing.T) {
	for _, c := range whole() {
		d := made(t, c)
		want := newImage(c)
		if d.Len() != 1+c.Blocks+c.LogCap || len(d.Waiting()) != 0 {
			t.Fatalf("New(%+v): %d sectors, %d writes wait", c, d.Len(), len(d.Waiting()))
		}
		if !bytes.Equal(d.Image(), want) {
			t.Fatalf("New(%+v): % x, want % x", c, d.Image(), want)
		}
		for n := range d.Len() {
			if b, e := d.Read(n); e != api.OK || !bytes.Equal(b, want[64*n:64*n+64]) {
				t.Fatalf("New(%+v): sector %d: % x, %d, want % x", c, n, b, e, want[64*n:64*n+64])
			}
		}
	}
}

func TestP8_6_SuperblockOfANewDisk(t *testing.T) {
	for _, c := range whole() {
		b, e := made(t, c).Read(0)
		if e != api.OK {
			t.Fatal(e)
		}
		if s, e := super.Decode(b); e != api.OK || s != (super.Super{Config: c, Tail: 0, Life: 1}) {
			t.Errorf("New(%+v): %+v, %d", c, s, e)
		}
	}
}

func TestP8_6_DurableFromTheBeginning(t *testing.T) {
	for _, c := range whole() {
		d := made(t, c)
		if n, e := d.Crash(); n != 0 || e != api.OK || !bytes.Equal(d.Image(), newImage(c)) {
			t.Errorf("New(%+v): a crash lost something: %d, %d", c, n, e)
		}
		if n, e := d.Flush(); n != 0 || e != api.OK || !bytes.Equal(d.Image(), newImage(c)) {
			t.Errorf("New(%+v): a flush changed something: %d, %d", c, n, e)
		}
		reads(t, "crashed", d, c, make([]api.Value, c.Blocks))
	}
}

func TestP8_6_NoConfiguration(t *testing.T) {
	for _, c := range lost() {
		if d, e := home.New(c); d != nil || e != api.ErrConfig {
			t.Errorf("New(%+v): %v, %d, want ErrConfig", c, d != nil, e)
		}
	}
}

func TestP8_6_DisksOfTheirOwn(t *testing.T) {
	c := usual()
	first, second := made(t, c), made(t, c)
	saved(t, first, c, 0, api.Value{9})
	first.Flush()
	if !bytes.Equal(second.Image(), newImage(c)) || !bytes.Equal(made(t, c).Image(), newImage(c)) {
		t.Error("what was written to one new disk stands on another one")
	}
}

func TestP8_7_ThereAndBack(t *testing.T) {
	c := chance(1)
	for n := range 20000 {
		block, v := n%64, c.value()
		b := encode(t, block, v)
		if got, e := home.Decode(b, block); e != api.OK || got != v {
			t.Fatalf("Decode(Encode(%d, %x)): %x, %d", block, v, got, e)
		}
	}
}

func TestP8_7_OneForm(t *testing.T) {
	// Bytes that are nearly a home's: with their right sum, so that the parts alone tell.
	taken := 0
	c := chance(2)
	for range 30000 {
		h := few()[c.next()%8]
		b := laid(h.Block, h.Value)[:60]
		for range c.next() % 3 {
			b[c.next()%60] = byte(c.next() % 66)
		}
		b = summed(b...)
		v, e := home.Decode(b, h.Block)
		if e != api.OK {
			refused(t, b, h.Block, api.ErrHome)
			continue
		}
		taken++
		if got := encode(t, h.Block, v); !bytes.Equal(got, b) {
			t.Fatalf("Encode(Decode(% x)): % x", b, got)
		}
	}
	if taken < 1000 || taken > 29000 {
		t.Errorf("%d of 30000 were taken: too few or too many to tell anything", taken)
	}
}

func TestP8_7_AnotherBlocksNumber(t *testing.T) {
	for _, v := range values()[:4] {
		for block := range 64 {
			b := encode(t, block, v)
			for other := range 64 {
				if other != block {
					refused(t, b, other, api.ErrHome)
				}
			}
		}
	}
}

func TestP8_7_NumbersOfNoBlockInTheByte(t *testing.T) {
	for x := 64; x < 256; x++ {
		for _, block := range []int{0, 1, x % 64, x - 64, 63} {
			if block < 64 {
				refused(t, laid(x, api.Value{6}), block, api.ErrHome)
			}
		}
	}
}

func TestP8_7_ValuesThatDifferInOneByte(t *testing.T) {
	c := config(2, 2, 1, 1, 1)
	for _, v := range values()[:3] {
		first := encode(t, 1, v)
		for at := range v {
			for _, x := range []byte{1, 2, 16, 128, 255} {
				w := v
				w[at] ^= x
				second := encode(t, 1, w)
				if bytes.Equal(first[:60], second[:60]) || bytes.Equal(first[60:], second[60:]) {
					t.Fatalf("%x and %x have the same bytes or the same sum", v, w)
				}
				if got, e := home.Decode(second, 1); e != api.OK || got != w || got == v {
					t.Fatalf("Decode of %x: %x, %d", w, got, e)
				}
				refused(t, append(bytes.Clone(first[:60]), second[60:]...), 1, api.ErrHome)
				d := made(t, c)
				saved(t, d, c, 0, v)
				saved(t, d, c, 1, w)
				reads(t, "side by side", d, c, []api.Value{v, w})
			}
		}
	}
}

func TestP8_8_OneByteTurned(t *testing.T) {
	for _, h := range few() {
		b := encode(t, h.Block, h.Value)
		for at := range b {
			for x := 1; x < 256; x++ {
				b[at] ^= byte(x)
				refused(t, b, h.Block, api.ErrHome)
				b[at] ^= byte(x)
			}
			if got, e := home.Decode(b, h.Block); e != api.OK || got != h.Value {
				t.Fatalf("byte %d turned and turned back: %x, %d, want %x", at, got, e, h.Value)
			}
		}
	}
}

func TestP8_8_TurnedIntoAnotherBlocks(t *testing.T) {
	// With its number turned, a home is not that of the block which it names then.
	for _, v := range values()[:3] {
		for block := range 64 {
			for other := range 64 {
				if b := encode(t, block, v); other != block {
					b[5] = byte(other)
					refused(t, b, other, api.ErrHome)
					refused(t, b, block, api.ErrHome)
				}
			}
		}
	}
}

func TestP8_8_FourBytesTurned(t *testing.T) {
	c := chance(3)
	for _, h := range few() {
		b := encode(t, h.Block, h.Value)
		for wide := 2; wide <= 4; wide++ {
			for at := 0; at+wide <= 64; at++ {
				for range 40 {
					other := bytes.Clone(b)
					for i := range wide {
						other[at+i] ^= byte(c.next())
					}
					if bytes.Equal(other, b) {
						continue
					}
					refused(t, other, h.Block, api.ErrHome)
					refused(t, other, int(other[5]%64), api.ErrHome)
					copy(other[at:at+wide], b[at:])
					if got, e := home.Decode(other, h.Block); e != api.OK || got != h.Value {
						t.Fatalf("bytes from %d on turned and turned back: %x, %d", at, got, e)
					}
				}
			}
		}
	}
}

func TestP8_8_TwoBitsTurned(t *testing.T) {
	// The least differences: two bits turned, in bytes that are at most three apart.
	for _, h := range few()[3:6] {
		b := encode(t, h.Block, h.Value)
		for first := range 64 * 8 {
			for second := first + 1; second < 64*8 && second/8 <= first/8+3; second++ {
				b[first/8] ^= 1 << (first % 8)
				b[second/8] ^= 1 << (second % 8)
				refused(t, b, h.Block, api.ErrHome)
				b[first/8] ^= 1 << (first % 8)
				b[second/8] ^= 1 << (second % 8)
			}
		}
	}
}

func TestP8_8_TwoBytesTurnedEveryWay(t *testing.T) {
	// Where the parts meet: all that two bytes there can be turned into.
	h := few()[6]
	b := encode(t, h.Block, h.Value)
	for _, at := range []int{4, 5, 27, 59, 60} {
		for x := 1; x < 1<<16; x++ {
			b[at] ^= byte(x)
			b[at+1] ^= byte(x >> 8)
			refused(t, b, h.Block, api.ErrHome)
			b[at] ^= byte(x)
			b[at+1] ^= byte(x >> 8)
		}
	}
}

func TestP8_8_AnotherHomesPart(t *testing.T) {
	// Parts that another home might have, without that home's sum.
	for _, h := range few() {
		for _, other := range few() {
			a, b := laid(h.Block, h.Value), laid(other.Block, other.Value)
			for at := range 61 {
				mixed := bytes.Clone(a)
				copy(mixed[at:at+4], b[at:at+4])
				if !bytes.Equal(mixed, a) {
					refused(t, mixed, h.Block, api.ErrHome)
					refused(t, mixed, other.Block, api.ErrHome)
				}
			}
		}
	}
}

func TestP8_9_SavedAndAllOthersAsAhead(t *testing.T) {
	ch := chance(4)
	for _, c := range whole() {
		d := made(t, c)
		want := make([]api.Value, c.Blocks)
		durable := slices.Clone(want)
		for range 60 {
			switch ch.next() % 8 {
			case 0:
				d.Flush()
				durable = slices.Clone(want)
			case 1:
				d.Crash()
				want = slices.Clone(durable)
			default:
				block := int(ch.next() % uint64(c.Blocks))
				want[block] = ch.value()
				saved(t, d, c, block, want[block])
			}
			reads(t, "a run", d, c, want)
		}
	}
}

func TestP8_9_AnUnreadHomeStaysUnread(t *testing.T) {
	c := config(4, 2, 1, 1, 1)
	for spoilt := range c.Blocks {
		d := made(t, c)
		wrote(t, d, 1+spoilt, make([]byte, 64))
		for block := range c.Blocks {
			if block != spoilt {
				saved(t, d, c, block, api.Value{})
			}
		}
		unread(t, "all others saved", d, c, spoilt)
	}
}

func TestP8_9_NothingButTheHomeIsWritten(t *testing.T) {
	for _, c := range whole() {
		for _, block := range []int{0, c.Blocks - 1} {
			d := made(t, c)
			want := newImage(c)
			saved(t, d, c, block, api.Value{5, 31: 6})
			d.Flush()
			copy(want[64*(1+block):], laid(block, api.Value{5, 31: 6}))
			if !bytes.Equal(d.Image(), want) {
				t.Fatalf("Save(%+v, %d) wrote elsewhere", c, block)
			}
		}
	}
}

func TestP8_9_RefusedWritesNothing(t *testing.T) {
	for _, c := range whole() {
		d := made(t, c)
		saved(t, d, c, c.Blocks-1, api.Value{3})
		was := tells(d)
		refusing := func(what string, of api.Config, block int, want api.Errno) {
			t.Helper()
			if e := home.Save(d, of, block, api.Value{1}); e != want {
				t.Fatalf("%s: Save(%+v, %d): %d, want %d", what, of, block, e, want)
			}
			home.Load(d, of, block)
			home.All(d, of)
			if !tells(d).same(was) {
				t.Fatalf("%s: a refused call wrote", what)
			}
		}
		for _, bad := range lost() {
			refusing("no configuration", bad, 0, api.ErrConfig)
		}
		for _, block := range noBlocks(c.Blocks) {
			refusing("no block", c, block, api.ErrBlock)
		}
		for _, other := range whole() {
			if other.Blocks+other.LogCap != c.Blocks+c.LogCap {
				refusing("another length", other, 0, api.ErrSector)
			}
		}
	}
}

func TestP8_9_ReadingWritesNothing(t *testing.T) {
	for _, c := range whole() {
		d := made(t, c)
		saved(t, d, c, 0, api.Value{3})
		wrote(t, d, c.Blocks, make([]byte, 64))
		was := tells(d)
		for block := range c.Blocks {
			home.Load(d, c, block)
		}
		home.All(d, c)
		if !tells(d).same(was) {
			t.Errorf("%+v: reading changed the disk", c)
		}
	}
}

func TestP8_9_AnotherConfigurationOfTheSameLength(t *testing.T) {
	// The length alone is held against a disk: where the homes stand is told by the configuration that is handed in.
	d := made(t, config(2, 3, 1, 1, 1))
	c := config(3, 2, 1, 1, 1)
	if _, e := home.Load(d, c, 2); e != api.ErrHome {
		t.Errorf("Load of a sector of the log: %d, want ErrHome", e)
	}
	saved(t, d, c, 2, api.Value{4})
	reads(t, "by the other configuration", d, c, []api.Value{{}, {}, {4}})
	reads(t, "by its own", d, config(2, 3, 1, 1, 1), make([]api.Value, 2))
	if e := home.Save(d, config(2, 3, 1, 1, 1), 2, api.Value{}); e != api.ErrBlock {
		t.Errorf("Save by its own: %d, want ErrBlock", e)
	}
}

func TestR1_ADiskThatNobodyMade(t *testing.T) {
	// A zero disk has no sector, so no configuration that may be is its own.
	onDisk(t, &sector.Disk{}, usual(), 0, func(call string, e api.Errno) {
		if e != api.ErrSector {
			t.Errorf("%s: %d, want ErrSector", call, e)
		}
	})
}

func TestR3_DecodeLeavesWhatItIsGiven(t *testing.T) {
	v := values()[1]
	b := laid(2, v)
	for _, was := range [][]byte{b, b[:63], rewritten(2, v, 27, 1), laid(3, v), append(bytes.Clone(b), 7), make([]byte, 64), {}} {
		for _, block := range []int{2, 3, -1, 64} {
			l := roomy(was)
			home.Decode(l, block)
			if !keeps(l, was) {
				t.Errorf("Decode(% x, %d) changed it: % x", was, block, l[:len(l)+spare])
			}
		}
	}
}

func TestR3_DecodeKeepsNothing(t *testing.T) {
	want := values()[1]
	l := roomy(laid(2, want))
	v, _ := home.Decode(l, 2)
	scrawl(l)
	if v != want {
		t.Errorf("written over, the value became %x", v)
	}
	if again, e := home.Decode(laid(2, want), 2); e != api.OK || again != want {
		t.Errorf("later: %x, %d", again, e)
	}
}

func TestR3_EncodeHandsOutNewMemory(t *testing.T) {
	for _, h := range few() {
		want := laid(h.Block, h.Value)
		first, second := encode(t, h.Block, h.Value), encode(t, h.Block, h.Value)
		scrawl(first)
		if !bytes.Equal(second, want) {
			t.Errorf("%+v: the second answer changed with the first", h)
		}
		third := encode(t, h.Block, h.Value)
		grown := append(second, 1, 2, 3)
		scrawl(grown)
		if !bytes.Equal(third, want) || !bytes.Equal(encode(t, h.Block, h.Value), want) {
			t.Errorf("%+v: an answer changed as another one grew", h)
		}
	}
}

func TestR3_AllHandsOutNewMemory(t *testing.T) {
	for _, c := range whole() {
		d := made(t, c)
		want := make([]api.Value, c.Blocks)
		want[0] = values()[1]
		saved(t, d, c, 0, want[0])
		was := tells(d)
		first, _ := home.All(d, c)
		second, _ := home.All(d, c)
		first = append(first[:cap(first)], api.Value{1})
		for i := range first {
			first[i] = values()[2]
		}
		if !slices.Equal(second, want) {
			t.Fatalf("%+v: the second answer changed with the first", c)
		}
		second = append(second, api.Value{2})
		second[0] = api.Value{3}
		reads(t, "lists written over", d, c, want)
		if !tells(d).same(was) {
			t.Fatalf("%+v: the disk changed with an answer", c)
		}
	}
}

func TestR3_ASavedValueIsTheDisksOwn(t *testing.T) {
	c := usual()
	d := made(t, c)
	v := values()[1]
	saved(t, d, c, 1, v)
	for i := range v {
		v[i] = 0x99
	}
	for _, w := range d.Waiting() {
		scrawl(w.Data)
	}
	b, _ := d.Read(2)
	scrawl(b)
	scrawl(d.Image())
	got, _ := home.Load(d, c, 1)
	got[0] ^= 255
	reads(t, "all written over", d, c, []api.Value{{}, values()[1]})
}

func TestR4_NilIsNoByte(t *testing.T) {
	for _, l := range [][]byte{nil, {}, roomy(nil)} {
		refused(t, l, 0, api.ErrInput)
		refused(t, l, -1, api.ErrBlock)
	}
}

func TestR5_SpareRoomTellsNothing(t *testing.T) {
	for _, h := range few() {
		b := laid(h.Block, h.Value)
		long := append(bytes.Clone(b), 1, 2, 3)
		for _, l := range [][]byte{b, slices.Clip(b), long[:64], roomy(b)} {
			if got, e := home.Decode(l, h.Block); e != api.OK || got != h.Value {
				t.Errorf("Decode with room %d: %x, %d, want %x", cap(l), got, e, h.Value)
			}
		}
		refused(t, b[:63], h.Block, api.ErrInput)
	}
}

func TestR5_NothingIsKeptFromCallToCall(t *testing.T) {
	for range 3 {
		for _, h := range few() {
			refused(t, rewritten(h.Block, h.Value, 27, 1), h.Block, api.ErrHome)
			if b := encode(t, h.Block, h.Value); !bytes.Equal(b, laid(h.Block, h.Value)) {
				t.Fatalf("Encode(%+v): % x", h, b)
			}
			home.New(api.Config{})
			if got, e := home.Decode(laid(h.Block, h.Value), h.Block); e != api.OK || got != h.Value {
				t.Fatalf("Decode of %+v: %x, %d", h, got, e)
			}
			if d := made(t, usual()); !bytes.Equal(d.Image(), newImage(usual())) {
				t.Fatal("New made another disk")
			}
		}
	}
}

func TestExample1(t *testing.T) {
	want := append([]byte{0x48, 0x4f, 0x4d, 0x45, 0x01, 0x02}, make([]byte, 54)...)
	b := encode(t, 2, api.Value{})
	if len(want) != 60 || !bytes.Equal(b, summed(want...)) {
		t.Errorf("% x, want % x", b, summed(want...))
	}
	for _, block := range []int{64, -1} {
		if b, e := home.Encode(block, api.Value{}); len(b) != 0 || e != api.ErrBlock {
			t.Errorf("Encode(%d, zeros): % x, %d, want ErrBlock", block, b, e)
		}
	}
}

func TestExample2(t *testing.T) {
	b := encode(t, 2, api.Value{})
	if v, e := home.Decode(b, 2); v != (api.Value{}) || e != api.OK {
		t.Errorf("with block 2: %x, %d", v, e)
	}
	refused(t, b, 3, api.ErrHome)
	refused(t, make([]byte, 64), 2, api.ErrHome)
	refused(t, b[:63], 2, api.ErrInput)
	refused(t, b[:63], 64, api.ErrBlock)
}

func TestExample3(t *testing.T) {
	c := usual()
	d := made(t, c)
	if d.Len() != 6 {
		t.Errorf("%d sectors", d.Len())
	}
	reads(t, "new", d, c, []api.Value{{}, {}})
	v := values()[1]
	saved(t, d, c, 1, v)
	reads(t, "saved", d, c, []api.Value{{}, v})
	if image := d.Image(); !bytes.Equal(image[128:192], laid(1, api.Value{})) {
		t.Errorf("the image has % x there", image[128:192])
	}
	long, many := c, c
	long.LogCap, many.MaxRes = 4, 3
	for _, x := range []struct{ got, want api.Errno }{
		{home.Save(d, c, 2, v), api.ErrBlock},
		{home.Save(d, long, 1, v), api.ErrSector},
		{home.Save(d, many, 1, v), api.ErrConfig},
	} {
		if x.got != x.want {
			t.Errorf("Save: %d, want %d", x.got, x.want)
		}
	}
}
