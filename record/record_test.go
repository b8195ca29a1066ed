package record_test

import (
	"bytes"
	"hash/crc32"
	"math"
	"slices"
	"testing"

	"wicket/api"
	"wicket/record"
)

// spare is how many bytes lie behind a list that roomy makes.
const spare = 100

// filler is the byte in that room, which nobody may touch.
const filler = 0xa5

// roomy tells the same bytes with spare room behind them.
func roomy(b []byte) []byte {
	l := append(bytes.Clone(b), bytes.Repeat([]byte{filler}, spare)...)
	return l[:len(b)]
}

// keeps tells whether bytes made by roomy still are as they were made, spare room too.
func keeps(l, was []byte) bool {
	return bytes.Equal(l, was) && bytes.Equal(l[len(l):len(l)+spare], bytes.Repeat([]byte{filler}, spare))
}

// scrawl writes over bytes, spare room too.
func scrawl(l []byte) {
	l = l[:cap(l)]
	for i := range l {
		l[i] = 0x99
	}
}

// chance tells numbers that look like chance and are the same in each run.
type chance uint64

func (c *chance) next() uint64 {
	*c ^= *c << 13
	*c ^= *c >> 7
	*c ^= *c << 17
	return uint64(*c)
}

// full tells a value of 32 times the same byte.
func full(x byte) (v api.Value) {
	for i := range v {
		v[i] = x
	}
	return v
}

// steep tells a value of 32 different bytes.
func steep() (v api.Value) {
	for i := range v {
		v[i] = byte(200 + 7*i)
	}
	return v
}

// single tells a value of zeros but for one byte.
func single(at int, x byte) (v api.Value) {
	v[at] = x
	return v
}

// summed tells 64 bytes: those given, zeros up to byte 59, and their sum, reckoned by another hand than the layer's.
func summed(b ...byte) []byte {
	all := make([]byte, 64)
	copy(all[:60], b)
	s := crc32.ChecksumIEEE(all[:60])
	for i := range 4 {
		all[60+i] = byte(s >> (8 * i))
	}
	return all
}

// laid tells the chapter's 64 bytes of an image or a commit, byte by byte.
func laid(r record.Record) []byte {
	b := make([]byte, 60)
	b[0] = 87
	b[1] = byte(r.Kind)
	for i := range 8 {
		b[4+i] = byte(r.Position >> (8 * i))
	}
	b[12] = byte(r.Block)
	if r.Kind == 2 {
		b[12] = byte(r.Images)
	}
	for i, x := range r.Value {
		b[16+i] = x
	}
	return summed(b...)
}

// image and commit tell records of the two kinds.
func image(position uint64, block int, v api.Value) record.Record {
	return record.Record{Kind: record.Image, Position: position, Block: block, Value: v}
}

func commit(position uint64, images int) record.Record {
	return record.Record{Kind: record.Commit, Position: position, Images: images}
}

// positions are positions at both edges, and such as differ in one bit of each byte.
func positions() []uint64 {
	list := []uint64{0, 5, 255, 257, 0x0102030405060708, api.MaxPos - 1, api.MaxPos}
	for i := range 63 {
		list = append(list, 1<<i)
	}
	slices.Sort(list)
	return slices.Compact(list)
}

// values are values of zeros, of ones, and such as have one byte alone.
func values() []api.Value {
	list := []api.Value{{}, full(1), full(255), steep()}
	for at := range 32 {
		list = append(list, single(at, 128))
	}
	return list
}

// good tells many different records that may be.
func good() []record.Record {
	var list []record.Record
	for _, p := range positions() {
		for b := range 64 {
			list = append(list, image(p, b, api.Value{}))
		}
		for n := range 17 {
			list = append(list, commit(p, n))
		}
		for _, v := range values()[1:] {
			list = append(list, image(p, 0, v), image(p, 63, v))
		}
	}
	return list
}

// some tells a few records that may be, of both kinds.
func some() []record.Record {
	return []record.Record{
		image(0, 0, api.Value{}), image(77, 3, steep()), image(api.MaxPos, 63, full(255)),
		commit(0, 0), commit(5, 2), commit(api.MaxPos, 16),
	}
}

// bad tells records that may not be.
func bad() []record.Record {
	v := single(0, 1)
	w := single(31, 1)
	list := []record.Record{
		{}, {Kind: -1}, {Kind: 3}, {Kind: 257}, {Kind: 258}, {Kind: math.MinInt}, {Kind: math.MaxInt},
		image(api.MaxPos+1, 0, v), image(math.MaxUint64, 0, v), image(1<<63, 0, v),
		commit(api.MaxPos+1, 0), commit(math.MaxUint64, 0), commit(1<<63, 0),
		image(0, -1, v), image(0, 64, v), image(0, 256, v), image(0, math.MinInt, v), image(0, math.MaxInt, v),
		commit(0, -1), commit(0, 17), commit(0, 256), commit(0, math.MinInt), commit(0, math.MaxInt),
	}
	for _, n := range []int{1, -1, 16, math.MinInt, math.MaxInt} {
		list = append(list, record.Record{Kind: record.Image, Images: n})
		list = append(list, record.Record{Kind: record.Commit, Block: n})
	}
	for _, u := range []api.Value{v, w, steep()} {
		list = append(list, record.Record{Kind: record.Commit, Value: u})
	}
	for _, kind := range []int{-1, 0, 3} {
		list = append(list, record.Record{Kind: kind, Position: 9, Block: 1, Value: v})
		list = append(list, record.Record{Kind: kind, Position: 9, Images: 1})
	}
	return list
}

// encode tells Encode where there is no error.
func encode(t *testing.T, r record.Record) []byte {
	t.Helper()
	b, e := record.Encode(r)
	if e != api.OK {
		t.Fatalf("Encode(%+v): %d", r, e)
	}
	return b
}

// refused fails, if Decode does not answer this error alone.
func refused(t *testing.T, b []byte, want api.Errno) {
	t.Helper()
	if r, e := record.Decode(b); e != want || r != (record.Record{}) {
		t.Fatalf("Decode(% x): %+v, %d, want error %d", b, r, e, want)
	}
}

func TestKinds(t *testing.T) {
	if record.Image != 1 || record.Commit != 2 {
		t.Errorf("kinds %d and %d, want 1 and 2", record.Image, record.Commit)
	}
}

func TestP6_1_Check(t *testing.T) {
	for _, r := range good() {
		if e := record.Check(r); e != api.OK {
			t.Errorf("Check(%+v): %d", r, e)
		}
	}
	for _, r := range bad() {
		if e := record.Check(r); e != api.ErrRecord {
			t.Errorf("Check(%+v): %d, want ErrRecord", r, e)
		}
	}
}

// may is the chapter's paragraph on records that may be, in its own order.
func may(r record.Record) bool {
	if r.Kind != 1 && r.Kind != 2 || r.Position > 1<<62 {
		return false
	}
	if r.Kind == 1 {
		return r.Block >= 0 && r.Block <= 63 && r.Images == 0
	}
	return r.Images >= 0 && r.Images <= 16 && r.Block == 0 && r.Value == [32]byte{}
}

// grid calls f with each record whose parts are of a few numbers at and beyond the edges.
func grid(f func(record.Record)) {
	numbers := []int{-1, 0, 1, 2, 15, 16, 17, 63, 64, 65}
	for _, kind := range []int{-1, 0, 1, 2, 3} {
		for _, p := range []uint64{0, 1, 1<<62 - 1, 1 << 62, 1<<62 + 1, 1<<64 - 1} {
			for _, b := range numbers {
				for _, n := range numbers {
					for _, v := range []api.Value{{}, single(0, 1), single(17, 128), single(31, 255), full(255)} {
						f(record.Record{Kind: kind, Position: p, Block: b, Value: v, Images: n})
					}
				}
			}
		}
	}
}

func TestP6_1_EdgesCrossed(t *testing.T) {
	grid(func(r record.Record) {
		want := api.OK
		if !may(r) {
			want = api.ErrRecord
		}
		if e := record.Check(r); e != want {
			t.Fatalf("Check(%+v): %d, want %d", r, e, want)
		}
	})
}

func TestP6_2_EncodesTheBytes(t *testing.T) {
	for _, r := range good() {
		if b := encode(t, r); !bytes.Equal(b, laid(r)) {
			t.Fatalf("Encode(%+v): % x, want % x", r, b, laid(r))
		}
	}
}

func TestP6_2_RefusesWhatCheckRefuses(t *testing.T) {
	for _, r := range bad() {
		if b, e := record.Encode(r); e != api.ErrRecord || len(b) != 0 {
			t.Errorf("Encode(%+v): % x, %d, want ErrRecord alone", r, b, e)
		}
	}
	grid(func(r record.Record) {
		b, e := record.Encode(r)
		if e != record.Check(r) || (e == api.OK) != (len(b) == 64) || e != api.OK && len(b) != 0 {
			t.Fatalf("Encode(%+v): % x, %d", r, b, e)
		}
	})
}

func TestP6_3_DecodesTheBytes(t *testing.T) {
	for _, r := range good() {
		if got, e := record.Decode(laid(r)); e != api.OK || got != r {
			t.Fatalf("Decode(% x): %+v, %d, want %+v", laid(r), got, e, r)
		}
	}
}

func TestP6_3_NotSixtyFourBytes(t *testing.T) {
	whole := laid(commit(5, 2))
	for _, b := range [][]byte{nil, {}, {87}, whole[:60], whole[:63], append(bytes.Clone(whole), 0), bytes.Repeat(whole, 2), make([]byte, 63), make([]byte, 65), make([]byte, 4096)} {
		refused(t, b, api.ErrInput)
	}
	refused(t, append([]byte{0}, whole...), api.ErrInput)
	refused(t, whole[1:], api.ErrInput)
	refused(t, make([]byte, 64), api.ErrRecord)
	if _, e := record.Decode(whole); e != api.OK {
		t.Errorf("64 bytes of a record: %d", e)
	}
}

// rewritten tells a record's bytes with the byte at set to x, and the sum that is right for them.
func rewritten(r record.Record, at int, x byte) []byte {
	b := laid(r)[:60]
	b[at] = x
	return summed(b...)
}

func TestP6_3_RightSumWrongBytes(t *testing.T) {
	for _, r := range some() {
		for x := range 256 {
			if x != 87 {
				refused(t, rewritten(r, 0, byte(x)), api.ErrRecord)
			}
			if x != 1 && x != 2 {
				refused(t, rewritten(r, 1, byte(x)), api.ErrRecord)
			}
			for _, at := range []int{2, 3, 13, 14, 15, 48, 49, 50, 51, 52, 53, 54, 55, 56, 57, 58, 59} {
				if x != 0 {
					refused(t, rewritten(r, at, byte(x)), api.ErrRecord)
				}
			}
			if x > 64 {
				refused(t, rewritten(r, 11, byte(x)), api.ErrRecord)
			}
		}
	}
}

func TestP6_3_PositionAboveTheGreatest(t *testing.T) {
	for _, p := range []uint64{api.MaxPos + 1, api.MaxPos + 256, api.MaxPos | 1<<55, 1<<63 - 1, 1 << 63, 1<<63 + 5, math.MaxUint64} {
		refused(t, laid(image(p, 3, steep())), api.ErrRecord)
		refused(t, laid(commit(p, 2)), api.ErrRecord)
	}
}

func TestP6_3_NumberTooGreat(t *testing.T) {
	for x := range 256 {
		want := image(9, x, steep())
		r, e := record.Decode(rewritten(image(9, 0, steep()), 12, byte(x)))
		if x < 64 && (e != api.OK || r != want) || x >= 64 && (e != api.ErrRecord || r != record.Record{}) {
			t.Errorf("image of block %d: %+v, %d", x, r, e)
		}
		want = commit(9, x)
		r, e = record.Decode(rewritten(commit(9, 0), 12, byte(x)))
		if x <= 16 && (e != api.OK || r != want) || x > 16 && (e != api.ErrRecord || r != record.Record{}) {
			t.Errorf("commit of %d images: %+v, %d", x, r, e)
		}
	}
	for _, kind := range []byte{1, 2} {
		for _, n := range [][]byte{{255, 255, 255, 255}, {0, 0, 0, 128}, {0, 0, 0, 1}, {0, 1, 0, 0}, {1, 0, 0, 128}} {
			refused(t, summed(append([]byte{87, kind, 0, 0, 5, 0, 0, 0, 0, 0, 0, 0}, n...)...), api.ErrRecord)
		}
	}
}

func TestP6_3_CommitWithAValue(t *testing.T) {
	for at := 16; at < 48; at++ {
		for _, x := range []byte{1, 128, 255} {
			refused(t, rewritten(commit(5, 2), at, x), api.ErrRecord)
			refused(t, rewritten(commit(0, 0), at, x), api.ErrRecord)
		}
	}
}

func TestP6_3_WrongSum(t *testing.T) {
	for _, r := range some() {
		b := laid(r)
		for _, s := range [][]byte{{0, 0, 0, 0}, {255, 255, 255, 255}, {b[63], b[62], b[61], b[60]}, {^b[60], ^b[61], ^b[62], ^b[63]}} {
			refused(t, append(bytes.Clone(b[:60]), s...), api.ErrRecord)
		}
	}
	refused(t, append(laid(commit(5, 2))[:60], laid(commit(6, 2))[60:]...), api.ErrRecord)
	refused(t, append(laid(image(5, 0, steep()))[:60], laid(image(5, 1, steep()))[60:]...), api.ErrRecord)
}

func TestP6_4_ThereAndBack(t *testing.T) {
	back := func(r record.Record) {
		if got, e := record.Decode(encode(t, r)); e != api.OK || got != r {
			t.Fatalf("Decode(Encode(%+v)): %+v, %d", r, got, e)
		}
	}
	for _, r := range good() {
		back(r)
	}
	c := chance(1)
	for range 3000 {
		var v api.Value
		for i := range v {
			v[i] = byte(c.next())
		}
		back(image(c.next()>>2, int(c.next()%64), v))
		back(commit(c.next()>>2, int(c.next()%17)))
	}
}

func TestP6_4_OneForm(t *testing.T) {
	// Bytes that are nearly a record's: with their right sum, so that the parts alone tell.
	taken := 0
	c := chance(2)
	for range 30000 {
		b := laid(some()[c.next()%6])[:60]
		for range c.next() % 3 {
			b[c.next()%60] = byte(c.next() % 65)
		}
		b = summed(b...)
		r, e := record.Decode(b)
		if e != api.OK {
			refused(t, b, api.ErrRecord)
			continue
		}
		taken++
		if got := encode(t, r); !bytes.Equal(got, b) {
			t.Fatalf("Encode(Decode(% x)): % x", b, got)
		}
	}
	if taken < 1000 || taken > 29000 {
		t.Errorf("%d of 30000 were taken: too few or too many to tell anything", taken)
	}
}

func TestP6_5_OneByteTurned(t *testing.T) {
	for _, r := range some() {
		b := encode(t, r)
		for at := range b {
			for x := 1; x < 256; x++ {
				b[at] ^= byte(x)
				refused(t, b, api.ErrRecord)
				b[at] ^= byte(x)
			}
		}
	}
}

func TestP6_5_FourBytesTurned(t *testing.T) {
	c := chance(3)
	for _, r := range some() {
		b := encode(t, r)
		for wide := 2; wide <= 4; wide++ {
			for at := 0; at+wide <= 64; at++ {
				for range 40 {
					other := bytes.Clone(b)
					for i := range wide {
						other[at+i] ^= byte(c.next())
					}
					if !bytes.Equal(other, b) {
						refused(t, other, api.ErrRecord)
					}
				}
			}
		}
	}
}

func TestP6_5_TwoBitsTurned(t *testing.T) {
	// The least differences: two bits turned, in bytes that are at most three apart.
	for _, r := range some() {
		b := encode(t, r)
		for first := range 64 * 8 {
			for second := first + 1; second < 64*8 && second/8 <= first/8+3; second++ {
				b[first/8] ^= 1 << (first % 8)
				b[second/8] ^= 1 << (second % 8)
				refused(t, b, api.ErrRecord)
				b[first/8] ^= 1 << (first % 8)
				b[second/8] ^= 1 << (second % 8)
			}
		}
	}
}

func TestP6_5_AnotherRecordsPart(t *testing.T) {
	// A part that another record might have, without that record's sum.
	b := laid(commit(5, 2))
	for n := range 17 {
		if n != 2 {
			other := bytes.Clone(b)
			other[12] = byte(n)
			refused(t, other, api.ErrRecord)
		}
	}
	for p := range 256 {
		if p != 5 {
			other := bytes.Clone(b)
			other[4] = byte(p)
			refused(t, other, api.ErrRecord)
		}
	}
	for at := 16; at < 45; at++ {
		other := laid(image(5, 2, steep()))
		copy(other[at:at+4], []byte{1, 2, 3, 4})
		refused(t, other, api.ErrRecord)
	}
}

func TestP6_5_Zeros(t *testing.T) {
	refused(t, make([]byte, 64), api.ErrRecord)
	refused(t, summed(), api.ErrRecord)
}

func TestP6_6_DifferentRecordsDifferentBytes(t *testing.T) {
	seen := map[[64]byte]record.Record{}
	for _, r := range good() {
		b := [64]byte(encode(t, r))
		if other, there := seen[b]; there && other != r {
			t.Fatalf("%+v and %+v have the same bytes", r, other)
		}
		seen[b] = r
	}
	if len(seen) != len(good()) {
		t.Errorf("%d different bytes of %d records", len(seen), len(good()))
	}
}

func TestP6_6_OnePartDiffers(t *testing.T) {
	for _, pair := range [][2]record.Record{
		{image(5, 0, api.Value{}), commit(5, 0)},
		{image(5, 3, steep()), image(6, 3, steep())},
		{image(5, 3, steep()), image(5, 4, steep())},
		{image(5, 3, steep()), image(5, 3, full(7))},
		{image(5, 3, full(0)), image(5, 3, single(31, 1))},
		{commit(5, 2), commit(6, 2)},
		{commit(5, 2), commit(5, 3)},
		{commit(0, 0), commit(api.MaxPos, 0)},
		{image(1, 1, api.Value{}), commit(1, 1)},
	} {
		if a, b := encode(t, pair[0]), encode(t, pair[1]); bytes.Equal(a, b) {
			t.Errorf("%+v and %+v: both % x", pair[0], pair[1], a)
		}
	}
}

func TestR3_DecodeLeavesWhatItIsGiven(t *testing.T) {
	whole := laid(image(5, 3, steep()))
	for _, b := range [][]byte{whole, whole[:63], rewritten(image(5, 3, steep()), 59, 1), append(bytes.Clone(whole), 7), make([]byte, 64), {}} {
		l := roomy(b)
		record.Decode(l)
		if !keeps(l, b) {
			t.Errorf("Decode(% x) changed it: % x", b, l[:len(l)+spare])
		}
	}
}

func TestR3_DecodeKeepsNothing(t *testing.T) {
	want := image(5, 3, steep())
	l := roomy(laid(want))
	r, _ := record.Decode(l)
	scrawl(l)
	if r != want {
		t.Errorf("written over, the record became %+v", r)
	}
	if again, e := record.Decode(laid(want)); e != api.OK || again != want {
		t.Errorf("later: %+v, %d", again, e)
	}
}

func TestR3_EncodeHandsOutNewMemory(t *testing.T) {
	for _, r := range some() {
		first, second := encode(t, r), encode(t, r)
		scrawl(first)
		if !bytes.Equal(second, laid(r)) {
			t.Errorf("%+v: the second answer changed with the first", r)
		}
		third := encode(t, r)
		grown := append(second, 1, 2, 3)
		scrawl(grown)
		if !bytes.Equal(third, laid(r)) || !bytes.Equal(encode(t, r), laid(r)) {
			t.Errorf("%+v: an answer changed as another one grew", r)
		}
	}
}

func TestR4_NilIsNoByte(t *testing.T) {
	refused(t, nil, api.ErrInput)
	refused(t, []byte{}, api.ErrInput)
	refused(t, roomy(nil), api.ErrInput)
}

func TestR5_SpareRoomTellsNothing(t *testing.T) {
	for _, r := range some() {
		whole := laid(r)
		long := append(bytes.Clone(whole), 1, 2, 3)
		for _, b := range [][]byte{whole, whole[:64:64], long[:64], roomy(whole)} {
			if got, e := record.Decode(b); e != api.OK || got != r {
				t.Errorf("Decode with room %d: %+v, %d, want %+v", cap(b), got, e, r)
			}
		}
		refused(t, whole[:63], api.ErrInput)
	}
}

func TestR5_NothingIsKeptFromCallToCall(t *testing.T) {
	for range 3 {
		for _, r := range some() {
			refused(t, rewritten(r, 59, 1), api.ErrRecord)
			if b := encode(t, r); !bytes.Equal(b, laid(r)) {
				t.Fatalf("Encode(%+v): % x", r, b)
			}
			record.Encode(record.Record{Kind: 3, Position: 1, Value: full(9)})
			if got, e := record.Decode(laid(r)); e != api.OK || got != r {
				t.Fatalf("Decode of %+v: %+v, %d", r, got, e)
			}
		}
	}
}

func TestExample1(t *testing.T) {
	want := append([]byte{87, 2, 0, 0, 5, 0, 0, 0, 0, 0, 0, 0, 2, 0, 0, 0}, make([]byte, 44)...)
	b := encode(t, record.Record{Kind: record.Commit, Position: 5, Images: 2})
	if !bytes.Equal(b[:60], want) || !bytes.Equal(b, summed(want...)) {
		t.Errorf("% x", b)
	}
}

func TestExample2(t *testing.T) {
	b := encode(t, record.Record{Kind: record.Image, Position: 0, Block: 63, Value: full(255)})
	if !bytes.Equal(b[12:16], []byte{63, 0, 0, 0}) || !bytes.Equal(b[16:48], bytes.Repeat([]byte{255}, 32)) {
		t.Errorf("% x", b)
	}
}

func TestExample3(t *testing.T) {
	for _, r := range []record.Record{
		{Kind: 0},
		{Kind: record.Commit, Images: 17},
		{Kind: record.Commit, Block: 1},
		{Kind: record.Image, Images: 1},
		{Kind: record.Image, Block: 64},
		{Kind: record.Commit, Position: 1<<62 + 1},
	} {
		if e := record.Check(r); e != api.ErrRecord {
			t.Errorf("Check(%+v): %d", r, e)
		}
	}
	refused(t, make([]byte, 63), api.ErrInput)
	refused(t, make([]byte, 64), api.ErrRecord)
}
