package sector_test

import (
	"bytes"
	"math"
	"slices"
	"testing"

	"wicket/api"
	"wicket/sector"
)

// most sectors of a disk.
const most = 4096

// all tells 64 times a byte.
func all(x byte) []byte { return bytes.Repeat([]byte{x}, 64) }

// mixed tells 64 bytes of which no two side by side are the same, others for each seed.
func mixed(seed int) []byte {
	b := make([]byte, 64)
	for i := range b {
		b[i] = byte(seed + i*7 + 1)
	}
	return b
}

// sectors tells sectors of one byte each, one behind the other.
func sectors(want ...byte) []byte {
	var b []byte
	for _, x := range want {
		b = append(b, all(x)...)
	}
	return b
}

// roomy tells the same bytes with spare room behind them, filled by a byte that nobody may touch.
func roomy(b []byte) []byte {
	l := append(bytes.Clone(b), bytes.Repeat([]byte{0xee}, 200)...)
	return l[:len(b)]
}

// keeps tells whether bytes made by roomy still are as they were made, spare room too.
func keeps(l, was []byte) bool {
	return bytes.Equal(l, was) && bytes.Equal(l[len(l):len(l)+200], bytes.Repeat([]byte{0xee}, 200))
}

// scrawl writes over bytes, spare room too.
func scrawl(b []byte) {
	b = b[:cap(b)]
	for i := range b {
		b[i] = 0x99
	}
}

// made tells a new disk.
func made(t *testing.T, n int) *sector.Disk {
	t.Helper()
	d, e := sector.New(n)
	if d == nil || e != api.OK {
		t.Fatalf("New(%d): %d", n, e)
	}
	return d
}

// loaded tells a disk of an image.
func loaded(t *testing.T, image []byte) *sector.Disk {
	t.Helper()
	d, e := sector.Load(image)
	if d == nil || e != api.OK {
		t.Fatalf("Load of %d bytes: %d", len(image), e)
	}
	return d
}

// write does a write that is taken.
func write(t *testing.T, d *sector.Disk, n int, b []byte) {
	t.Helper()
	if e := d.Write(n, b); e != api.OK {
		t.Fatalf("Write(%d, %d bytes): %d", n, len(b), e)
	}
}

// three does the three writes of the chapter's examples on a new disk of two sectors.
func three(t *testing.T) *sector.Disk {
	t.Helper()
	d := made(t, 2)
	write(t, d, 0, all(1))
	write(t, d, 0, all(2))
	write(t, d, 1, all(3))
	return d
}

// flushed tells Flush where there is no error.
func flushed(t *testing.T, d *sector.Disk) int {
	t.Helper()
	n, e := d.Flush()
	if e != api.OK {
		t.Fatalf("Flush: %d", e)
	}
	return n
}

// crashed tells Crash where there is no error.
func crashed(t *testing.T, d *sector.Disk, keep ...int) int {
	t.Helper()
	n, e := d.Crash(keep...)
	if e != api.OK {
		t.Fatalf("Crash(%v): %d", keep, e)
	}
	return n
}

// read tells what all sectors read, one behind the other.
func read(t *testing.T, d *sector.Disk) []byte {
	t.Helper()
	var l []byte
	for n := range d.Len() {
		b, e := d.Read(n)
		if len(b) != 64 || e != api.OK {
			t.Fatalf("Read(%d): %d bytes, %d", n, len(b), e)
		}
		l = append(l, b...)
	}
	return l
}

// model is a disk as plainly as can be: what waits, and what is durable.
type model struct {
	durable []byte
	waiting []sector.Write
}

// fork tells another model with the same.
func (m *model) fork() *model {
	return &model{durable: bytes.Clone(m.durable), waiting: slices.Clone(m.waiting)}
}

// write lets a write wait.
func (m *model) write(n int, b []byte) {
	m.waiting = append(m.waiting, sector.Write{Sector: n, Data: bytes.Clone(b)})
}

// crash keeps the waiting writes of some numbers; how many had been waiting.
func (m *model) crash(keep ...int) int {
	n := len(m.waiting)
	for i, w := range m.waiting {
		if slices.Contains(keep, i) {
			copy(m.durable[64*w.Sector:], w.Data)
		}
	}
	m.waiting = nil
	return n
}

// flush keeps all.
func (m *model) flush() int {
	for _, w := range m.waiting {
		copy(m.durable[64*w.Sector:], w.Data)
	}
	n := len(m.waiting)
	m.waiting = nil
	return n
}

// read tells what all sectors read.
func (m *model) read() []byte {
	f := m.fork()
	f.flush()
	return f.durable
}

// sameWrites tells whether two lists have the same writes.
func sameWrites(a, b []sector.Write) bool {
	return slices.EqualFunc(a, b, func(x, y sector.Write) bool {
		return x.Sector == y.Sector && bytes.Equal(x.Data, y.Data)
	})
}

// holds holds all that a disk tells against a model.
func holds(t *testing.T, when string, d *sector.Disk, m *model) {
	t.Helper()
	if d.Len() != len(m.durable)/64 {
		t.Fatalf("%s: Len = %d", when, d.Len())
	}
	if !bytes.Equal(d.Image(), m.durable) {
		t.Fatalf("%s: Image is another one", when)
	}
	if !sameWrites(d.Waiting(), m.waiting) {
		t.Fatalf("%s: Waiting is another one", when)
	}
	if !bytes.Equal(read(t, d), m.read()) {
		t.Fatalf("%s: a sector reads otherwise", when)
	}
}

func TestP4_1New(t *testing.T) {
	for _, n := range []int{0, -1, -2, -64, -most, most + 1, most + 2, 2 * most, 1 << 32, 1<<32 + 1, math.MaxInt, math.MinInt, math.MinInt + 1} {
		if d, e := sector.New(n); d != nil || e != api.ErrInput {
			t.Errorf("New(%d) = %v, %d", n, d != nil, e)
		}
	}
	for _, n := range []int{1, 2, 3, 64, 129, most - 1, most} {
		holds(t, "New", made(t, n), &model{durable: make([]byte, 64*n)})
	}
}

func TestP4_1Load(t *testing.T) {
	for _, n := range []int{0, 1, 63, 65, 127, 129, 64*most - 64 + 1, 64*most - 1, 64*most + 1, 64*most + 63, 64*most + 64, 64*most + 128, 128 * most} {
		if d, e := sector.Load(make([]byte, n)); d != nil || e != api.ErrInput {
			t.Errorf("Load of %d bytes = %v, %d", n, d != nil, e)
		}
	}
	if d, e := sector.Load(nil); d != nil || e != api.ErrInput {
		t.Errorf("Load(nil) = %v, %d", d != nil, e)
	}
	for _, n := range []int{1, 2, 3, 129, most - 1, most} {
		var image []byte
		for i := range n {
			image = append(image, mixed(i*i)...)
		}
		holds(t, "Load", loaded(t, image), &model{durable: image})
	}
}

func TestP4_2Read(t *testing.T) {
	d := loaded(t, sectors(7, 8, 9))
	for _, n := range []int{-1, -2, -3, 3, 4, 1 << 32, 1<<32 + 1, math.MaxInt, math.MinInt, math.MinInt + 1} {
		if b, e := d.Read(n); len(b) != 0 || e != api.ErrSector {
			t.Errorf("Read(%d) = %d bytes, %d", n, len(b), e)
		}
	}
	for _, c := range []struct {
		sector int
		data   byte
		want   []byte
	}{
		{0, 1, sectors(1, 8, 9)},
		{2, 2, sectors(1, 8, 2)},
		{0, 3, sectors(3, 8, 2)},
		{1, 4, sectors(3, 4, 2)},
		{0, 1, sectors(1, 4, 2)},
		{2, 9, sectors(1, 4, 9)},
	} {
		write(t, d, c.sector, all(c.data))
		if !bytes.Equal(read(t, d), c.want) {
			t.Errorf("behind Write(%d, %d ..) the sectors read otherwise", c.sector, c.data)
		}
	}
	one := made(t, 1)
	if _, e := one.Read(1); e != api.ErrSector {
		t.Errorf("Read(1) of one sector: %d", e)
	}
	last := made(t, most)
	write(t, last, most-1, mixed(5))
	if b, e := last.Read(most - 1); !bytes.Equal(b, mixed(5)) || e != api.OK {
		t.Errorf("Read of the last of all: %d", e)
	}
}

func TestP4_3Write(t *testing.T) {
	d, m := made(t, 2), &model{durable: sectors(0, 0)}
	for i, n := range []int{1, 0, 0, 1, 1} {
		write(t, d, n, mixed(i))
		m.write(n, mixed(i))
		holds(t, "Write", d, m)
	}
	// A write that brings nothing new waits as any other.
	write(t, d, 1, mixed(4))
	m.write(1, mixed(4))
	holds(t, "Write of the same", d, m)
	zeros := made(t, 1)
	write(t, zeros, 0, all(0))
	if n := len(zeros.Waiting()); n != 1 {
		t.Errorf("behind a write of zeros %d wait", n)
	}
}

func TestP4_3WriteIsRefused(t *testing.T) {
	d, m := loaded(t, sectors(7, 8)), &model{durable: sectors(7, 8)}
	write(t, d, 1, all(1))
	m.write(1, all(1))
	for _, n := range []int{0, 1} {
		for _, size := range []int{0, 1, 32, 63, 65, 127, 128, 64 * most} {
			if e := d.Write(n, make([]byte, size)); e != api.ErrInput {
				t.Errorf("Write(%d, %d bytes) = %d", n, size, e)
			}
		}
		if e := d.Write(n, nil); e != api.ErrInput {
			t.Errorf("Write(%d, nil) = %d", n, e)
		}
	}
	for _, n := range []int{-1, -2, 2, 3, 1 << 32, math.MaxInt, math.MinInt} {
		for _, size := range []int{0, 63, 64, 65} {
			if e := d.Write(n, make([]byte, size)); e != api.ErrSector {
				t.Errorf("Write(%d, %d bytes) = %d", n, size, e)
			}
		}
	}
	holds(t, "behind writes that were refused", d, m)
}

func TestP4_4Flush(t *testing.T) {
	d, m := loaded(t, sectors(7, 8, 9)), &model{durable: sectors(7, 8, 9)}
	if n := flushed(t, d); n != 0 {
		t.Errorf("Flush where nothing waits = %d", n)
	}
	holds(t, "Flush where nothing waits", d, m)
	for round, list := range [][]int{{0}, {1, 1, 1}, {2, 0, 2, 0}, {}, {0, 1, 2, 2, 1, 0, 0}} {
		for i, n := range list {
			write(t, d, n, mixed(10*round+i))
			m.write(n, mixed(10*round+i))
		}
		if n := flushed(t, d); n != len(list) {
			t.Errorf("Flush = %d, want %d", n, len(list))
		}
		m.flush()
		holds(t, "Flush", d, m)
		if n := flushed(t, d); n != 0 {
			t.Errorf("Flush again = %d", n)
		}
		holds(t, "Flush again", d, m)
	}
}

// tuples calls f with each list of so many numbers, each of them from low up to, without it, high.
func tuples(count, low, high int, f func(l []int)) {
	if count == 0 {
		f(nil)
		return
	}
	tuples(count-1, low, high, func(l []int) {
		for x := low; x < high; x++ {
			f(append(slices.Clone(l), x))
		}
	})
}

// TestP4_5Crash tries every list of up to four numbers, -1 and 4 among them, on four writes: any order, doubles, none, all.
func TestP4_5Crash(t *testing.T) {
	d, m := loaded(t, sectors(7, 8, 9)), &model{durable: sectors(7, 8, 9)}
	for i, n := range []int{0, 1, 0, 0} {
		write(t, d, n, mixed(i))
		m.write(n, mixed(i))
	}
	for count := range 5 {
		tuples(count, -1, 5, func(keep []int) {
			c, w := d.Copy(), m.fork()
			if n := crashed(t, c, keep...); n != 4 {
				t.Fatalf("Crash(%v) = %d", keep, n)
			}
			w.crash(keep...)
			holds(t, "Crash", c, w)
			if n := crashed(t, c, keep...); n != 0 {
				t.Fatalf("Crash(%v) again = %d", keep, n)
			}
			holds(t, "Crash again", c, w)
		})
	}
}

func TestP4_5CrashCountsNothing(t *testing.T) {
	far := []int{3, 4, 64, -1, -2, -3, -4, 1 << 32, 1<<32 + 1, -1 << 32, math.MaxInt, math.MinInt, math.MinInt + 1}
	d := three(t)
	if n := crashed(t, d, far...); n != 3 {
		t.Errorf("Crash with numbers of no write = %d", n)
	}
	holds(t, "Crash with numbers of no write", d, &model{durable: sectors(0, 0)})
	d = three(t)
	crashed(t, d, append(slices.Clone(far), append([]int{1}, far...)...)...)
	holds(t, "Crash with one number among others", d, &model{durable: sectors(2, 0)})
	for _, keep := range [][]int{nil, {}, {0}, {-1, 0, 1}} {
		empty := loaded(t, sectors(5))
		if n := crashed(t, empty, keep...); n != 0 {
			t.Errorf("Crash(%v) where nothing waits = %d", keep, n)
		}
		holds(t, "Crash where nothing waits", empty, &model{durable: sectors(5)})
	}
}

func TestP4_5CrashNumbersBeginAnew(t *testing.T) {
	d := three(t)
	flushed(t, d)
	write(t, d, 0, all(4))
	write(t, d, 1, all(5))
	if n := crashed(t, d, 1, 2); n != 2 {
		t.Errorf("Crash behind a flush = %d", n)
	}
	holds(t, "Crash behind a flush", d, &model{durable: sectors(2, 5)})
	write(t, d, 1, all(6))
	if n := crashed(t, d, 0); n != 1 {
		t.Errorf("Crash behind a crash = %d", n)
	}
	holds(t, "Crash behind a crash", d, &model{durable: sectors(2, 6)})
}

func TestP4_5CrashOfMany(t *testing.T) {
	const count = 20000
	d := made(t, 3)
	var odd []int
	for i := range count {
		write(t, d, i%2, mixed(i))
		if b, e := d.Read(i % 2); !bytes.Equal(b, mixed(i)) || e != api.OK {
			t.Fatalf("Read of write %d: %d", i, e)
		}
		if i%2 == 1 {
			odd = append(odd, i, i)
		}
	}
	slices.Reverse(odd)
	if n := crashed(t, d, odd...); n != count {
		t.Errorf("Crash = %d", n)
	}
	want := append(append(all(0), mixed(count-1)...), all(0)...)
	holds(t, "Crash of many", d, &model{durable: want})
}

func TestP4_6Tells(t *testing.T) {
	d := three(t)
	want := []sector.Write{{Sector: 0, Data: all(1)}, {Sector: 0, Data: all(2)}, {Sector: 1, Data: all(3)}}
	for range 2 { // telling changes nothing
		if !sameWrites(d.Waiting(), want) {
			t.Error("Waiting tells other writes")
		}
		if !bytes.Equal(d.Image(), sectors(0, 0)) {
			t.Error("Image tells what waits")
		}
	}
	if n := flushed(t, d); n != 3 {
		t.Errorf("Flush behind telling = %d", n)
	}
	if len(d.Waiting()) != 0 || !bytes.Equal(d.Image(), sectors(2, 3)) {
		t.Error("Flush leaves writes waiting")
	}
}

// TestP4_6Copy writes, flushes and crashes on either side of a copy, and looks at the other one.
func TestP4_6Copy(t *testing.T) {
	steps := []func(d *sector.Disk, m *model){
		func(d *sector.Disk, m *model) { write(t, d, 0, all(21)); m.write(0, all(21)) },
		func(d *sector.Disk, m *model) { write(t, d, 1, all(22)); m.write(1, all(22)) },
		func(d *sector.Disk, m *model) { flushed(t, d); m.flush() },
		func(d *sector.Disk, m *model) { crashed(t, d, 1); m.crash(1) },
		func(d *sector.Disk, m *model) { crashed(t, d); m.crash() },
	}
	for waits := range 4 {
		tuples(2, 0, len(steps), func(l []int) {
			one, m := loaded(t, sectors(7, 8)), &model{durable: sectors(7, 8)}
			for i := range waits {
				write(t, one, i%2, all(byte(i+1)))
				m.write(i%2, all(byte(i+1)))
			}
			two := one.Copy()
			if two == nil || two == one {
				t.Fatal("Copy tells no other disk")
			}
			holds(t, "a copy", two, m)
			left, right := m.fork(), m.fork()
			steps[l[0]](one, left)
			holds(t, "behind a step of the first", one, left)
			holds(t, "the copy behind a step of the first", two, right)
			steps[l[1]](two, right)
			holds(t, "the first behind a step of the copy", one, left)
			holds(t, "behind a step of the copy", two, right)
		})
	}
}

func TestP4_6NilDisk(t *testing.T) {
	var d *sector.Disk
	if n := d.Len(); n != 0 {
		t.Errorf("Len = %d", n)
	}
	if l := d.Waiting(); len(l) != 0 {
		t.Errorf("Waiting has %d", len(l))
	}
	if b := d.Image(); len(b) != 0 {
		t.Errorf("Image has %d", len(b))
	}
	if c := d.Copy(); c != nil {
		t.Error("Copy tells a disk")
	}
	for _, n := range []int{-1, 0, 1, math.MaxInt, math.MinInt} {
		if b, e := d.Read(n); len(b) != 0 || e != api.ErrHandle {
			t.Errorf("Read(%d) = %d", n, e)
		}
		for _, b := range [][]byte{nil, all(1)[1:], all(1), append(all(1), 1)} {
			if e := d.Write(n, b); e != api.ErrHandle {
				t.Errorf("Write(%d, %d bytes) = %d", n, len(b), e)
			}
		}
	}
	if n, e := d.Flush(); n != 0 || e != api.ErrHandle {
		t.Errorf("Flush = %d, %d", n, e)
	}
	for _, keep := range [][]int{nil, {0}, {0, 1, -1}} {
		if n, e := d.Crash(keep...); n != 0 || e != api.ErrHandle {
			t.Errorf("Crash(%v) = %d, %d", keep, n, e)
		}
	}
}

// walk goes through all ways to do so many steps on a disk and its model; seen is called behind each step, settled telling whether it was a flush or a crash.
func walk(t *testing.T, depth int, d *sector.Disk, m *model, seen func(settled bool, d *sector.Disk, m *model)) {
	if depth == 0 {
		return
	}
	for n, b := range [][]byte{mixed(depth), mixed(depth + 100)} {
		c, w := d.Copy(), m.fork()
		write(t, c, n, b)
		w.write(n, b)
		seen(false, c, w)
		walk(t, depth-1, c, w, seen)
	}
	for _, keep := range [][]int{{}, {0}, {1}, {2, 0}} {
		c, w := d.Copy(), m.fork()
		if crashed(t, c, keep...) != w.crash(keep...) {
			t.Fatalf("Crash(%v) counts otherwise", keep)
		}
		seen(true, c, w)
		walk(t, depth-1, c, w, seen)
	}
	c, w := d.Copy(), m.fork()
	if flushed(t, c) != w.flush() {
		t.Fatal("Flush counts otherwise")
	}
	seen(true, c, w)
	walk(t, depth-1, c, w, seen)
}

func TestP4_7ImageIsWhatIsRead(t *testing.T) {
	count := 0
	walk(t, 5, loaded(t, sectors(7, 8)), &model{durable: sectors(7, 8)}, func(settled bool, d *sector.Disk, m *model) {
		holds(t, "a step", d, m)
		if settled {
			count++
			if !bytes.Equal(d.Image(), read(t, d)) || len(d.Waiting()) != 0 {
				t.Fatal("Image is not what Read tells")
			}
		}
	})
	if count < 1000 {
		t.Errorf("only %d flushes and crashes", count)
	}
}

func TestP4_8CrashesThatKeepAllOrNone(t *testing.T) {
	walk(t, 4, loaded(t, sectors(7, 8)), &model{durable: sectors(7, 8)}, func(_ bool, d *sector.Disk, m *model) {
		var keep []int
		for i := range d.Waiting() {
			keep = append([]int{i}, keep...)
		}
		kept, flush, lost := d.Copy(), d.Copy(), d.Copy()
		if n := crashed(t, kept, keep...); n != flushed(t, flush) || n != len(keep) || n != crashed(t, lost) {
			t.Fatalf("%d waited, and %d are counted", len(keep), n)
		}
		if !bytes.Equal(kept.Image(), flush.Image()) || !bytes.Equal(read(t, kept), read(t, flush)) {
			t.Fatal("a crash that keeps all is no flush")
		}
		if !bytes.Equal(lost.Image(), d.Image()) || !bytes.Equal(read(t, lost), d.Image()) {
			t.Fatal("a crash that keeps none changes Image")
		}
	})
}

func TestP4_9SectorsAreWhole(t *testing.T) {
	for _, first := range [][]byte{nil, append(mixed(200), mixed(201)...)} {
		d := made(t, 2)
		if first != nil {
			d = loaded(t, first)
		}
		durable := d.Image()
		whole := func(n int, b []byte) bool {
			may := [][]byte{durable[64*n : 64*n+64]}
			for depth := range 6 {
				may = append(may, mixed(depth+100*n))
			}
			return slices.ContainsFunc(may, func(x []byte) bool { return bytes.Equal(x, b) })
		}
		walk(t, 5, d, &model{durable: durable}, func(_ bool, d *sector.Disk, _ *model) {
			image, now := d.Image(), read(t, d)
			for n := range 2 {
				if !whole(n, image[64*n:64*n+64]) || !whole(n, now[64*n:64*n+64]) {
					t.Fatalf("sector %d has bytes that nobody wrote", n)
				}
			}
		})
	}
}

func TestP4_10LoadedGoesOn(t *testing.T) {
	walk(t, 3, loaded(t, sectors(7, 8)), &model{durable: sectors(7, 8)}, func(settled bool, d *sector.Disk, m *model) {
		if !settled {
			return
		}
		l := loaded(t, d.Image())
		holds(t, "Load(Image())", l, m)
		walk(t, 2, l, m.fork(), func(_ bool, d *sector.Disk, m *model) { holds(t, "what was loaded", d, m) })
	})
	// What waited is not in the image.
	holds(t, "Load(Image()) while writes wait", loaded(t, three(t).Image()), &model{durable: sectors(0, 0)})
}

func TestR3HandedIn(t *testing.T) {
	image := roomy(append(mixed(1), mixed(2)...))
	d := loaded(t, image)
	if !keeps(image, append(mixed(1), mixed(2)...)) {
		t.Error("Load changes the image that it is given")
	}
	b := roomy(mixed(3))
	write(t, d, 1, b)
	if !keeps(b, mixed(3)) {
		t.Error("Write changes the bytes that it is given")
	}
	m := &model{durable: append(mixed(1), mixed(2)...)}
	m.write(1, mixed(3))
	scrawl(image)
	scrawl(b)
	holds(t, "behind lists that were written over", d, m)
	room := []int{1, 0, 0, 9, 77, 77}
	keep := room[:4]
	write(t, d, 0, mixed(4))
	m.write(0, mixed(4))
	crashed(t, d, keep...)
	m.crash(keep...)
	if !slices.Equal(room, []int{1, 0, 0, 9, 77, 77}) {
		t.Error("Crash changes the numbers that it is given")
	}
	holds(t, "Crash", d, m)
}

func TestR3HandedOut(t *testing.T) {
	d := loaded(t, sectors(7, 8))
	m := &model{durable: sectors(7, 8)}
	look := func(when string) {
		t.Helper()
		for n := range d.Len() {
			b, _ := d.Read(n)
			scrawl(b)
		}
		scrawl(d.Image())
		l := d.Waiting()
		for i := range l {
			scrawl(l[i].Data)
			l[i].Sector = 77
		}
		clear(l[:cap(l)])
		holds(t, when, d, m)
	}
	look("at the beginning")
	for i, n := range []int{0, 0, 1} {
		write(t, d, n, all(byte(i+1)))
		m.write(n, all(byte(i+1)))
		look("while writes wait")
	}
	c, w := d.Copy(), m.fork()
	flushed(t, d)
	m.flush()
	look("behind a flush")
	holds(t, "the copy", c, w)
	l := c.Waiting()
	scrawl(l[0].Data)
	if !bytes.Equal(l[1].Data, all(2)) || !bytes.Equal(l[2].Data, all(3)) {
		t.Error("two writes of one answer share memory")
	}
}

func TestR5DisksAreTheirOwn(t *testing.T) {
	one, two := made(t, 2), made(t, 2)
	write(t, one, 0, all(1))
	flushed(t, one)
	write(t, one, 1, all(2))
	holds(t, "a disk beside another one", two, &model{durable: sectors(0, 0)})
	crashed(t, two, 0)
	if n := len(one.Waiting()); n != 1 {
		t.Errorf("behind another disk's crash %d wait", n)
	}
	holds(t, "a later disk", made(t, 2), &model{durable: sectors(0, 0)})
}

func TestExample1(t *testing.T) {
	for _, n := range []int{0, 4097} {
		if d, e := sector.New(n); d != nil || e != api.ErrInput {
			t.Errorf("New(%d) = %v, %d", n, d != nil, e)
		}
	}
	d := made(t, 2)
	if d.Len() != 2 || !bytes.Equal(d.Image(), make([]byte, 128)) {
		t.Error("New(2) is another disk")
	}
	for _, n := range []int{2, -1} {
		if b, e := d.Read(n); len(b) != 0 || e != api.ErrSector {
			t.Errorf("Read(%d) = %d", n, e)
		}
	}
}

func TestExample2(t *testing.T) {
	d := three(t)
	if b, _ := d.Read(0); len(b) != 64 || b[0] != 2 {
		t.Error("Read(0) does not begin with 2")
	}
	if !bytes.Equal(d.Image(), make([]byte, 128)) {
		t.Error("Image is not zeros still")
	}
	if l := d.Waiting(); len(l) != 3 || l[0].Sector != 0 || l[1].Sector != 0 || l[2].Sector != 1 {
		t.Error("Waiting tells other writes")
	}
	if n, e := d.Crash(2, 0, 2, 9, -1); n != 3 || e != api.OK {
		t.Errorf("Crash = %d, %d", n, e)
	}
	if !bytes.Equal(d.Image(), sectors(1, 3)) || len(d.Waiting()) != 0 {
		t.Error("the disk behind the crash is another one")
	}
}

func TestExample3(t *testing.T) {
	d := three(t)
	if n := crashed(t, d, 1, 0); n != 3 || !bytes.Equal(d.Image(), sectors(2, 0)) {
		t.Errorf("Crash(1, 0) = %d", n)
	}
	d = three(t)
	if n := crashed(t, d); n != 3 || !bytes.Equal(d.Image(), sectors(0, 0)) {
		t.Errorf("Crash() = %d", n)
	}
	d = three(t)
	if n := flushed(t, d); n != 3 || !bytes.Equal(d.Image(), sectors(2, 3)) {
		t.Errorf("Flush() = %d", n)
	}
	if n := flushed(t, d); n != 0 {
		t.Errorf("Flush() again = %d", n)
	}
}

func TestExample4(t *testing.T) {
	d := made(t, 2)
	if e := d.Write(0, make([]byte, 63)); e != api.ErrInput {
		t.Errorf("Write(0, 63 bytes) = %d", e)
	}
	if e := d.Write(2, make([]byte, 63)); e != api.ErrSector {
		t.Errorf("Write(2, 63 bytes) = %d", e)
	}
	for _, n := range []int{65, 0} {
		if d, e := sector.Load(make([]byte, n)); d != nil || e != api.ErrInput {
			t.Errorf("Load of %d bytes = %v, %d", n, d != nil, e)
		}
	}
}
