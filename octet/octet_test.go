package octet_test

import (
	"bytes"
	"math"
	"slices"
	"testing"

	"wicket/api"
	"wicket/octet"
)

// wrongSizes: sizes that no number has, each beside an edge or far from all.
var wrongSizes = []int{0, 9, -1, -8, 10, 64, 256, 1 << 40, math.MaxInt, math.MinInt}

// least tells the least number that a size below 8 does not hold.
func least(size int) uint64 { return 1 << (8 * size) }

// edges tells numbers that a size holds: the edges of all lesser sizes, its own, and some between.
func edges(size int) []uint64 {
	l := []uint64{0, 1, 2, 127, 128, 255}
	for s := 1; s < size; s++ {
		l = append(l, least(s)-1, least(s), least(s)+1, least(s)*0x5a)
	}
	return append(l, math.MaxUint64>>(64-8*size), 0x0807060504030201>>(64-8*size))
}

// count tells bytes 1, 2, 3, .., so that each place has a byte of its own.
func count(n int) []byte {
	b := make([]byte, n)
	for i := range b {
		b[i] = byte(i + 1)
	}
	return b
}

// roomy tells the same bytes with spare room behind them, filled by a byte that nobody may touch.
func roomy(b []byte) []byte {
	l := append(slices.Clone(b), bytes.Repeat([]byte{0xee}, 24)...)
	return l[:len(b)]
}

// keeps tells whether bytes made by roomy still are as they were made, spare room too.
func keeps(l, was []byte) bool {
	return bytes.Equal(l, was) && bytes.Equal(l[len(l):len(l)+24], bytes.Repeat([]byte{0xee}, 24))
}

// scrawl writes over an answer, spare room too.
func scrawl(b []byte) {
	b = b[:cap(b)]
	for i := range b {
		b[i] = 0x99
	}
}

func TestP1_1Put(t *testing.T) {
	for _, c := range []struct {
		n    uint64
		size int
		want string
		e    api.Errno
	}{
		{258, 2, "\x02\x01", api.OK},
		{258, 4, "\x02\x01\x00\x00", api.OK},
		{256, 1, "", api.ErrWide},
		{0, 0, "", api.ErrInput},
		{0, 9, "", api.ErrInput},
		{18446744073709551615, 8, "\xff\xff\xff\xff\xff\xff\xff\xff", api.OK},
		{0, 1, "\x00", api.OK},
		{0, 8, "\x00\x00\x00\x00\x00\x00\x00\x00", api.OK},
		{255, 1, "\xff", api.OK},
		{0x0807060504030201, 8, "\x01\x02\x03\x04\x05\x06\x07\x08", api.OK},
		{0x0807060504030201, 7, "", api.ErrWide},
		{1 << 63, 8, "\x00\x00\x00\x00\x00\x00\x00\x80", api.OK},
		{1 << 63, 7, "", api.ErrWide},
	} {
		if b, e := octet.Put(c.n, c.size); string(b) != c.want || e != c.e {
			t.Errorf("Put(%d, %d) = % x, %d, want % x, %d", c.n, c.size, b, e, c.want, c.e)
		}
	}
}

func TestP1_1PutAtTheEdgesOfEachSize(t *testing.T) {
	for size := 1; size <= 7; size++ {
		if b, e := octet.Put(least(size), size); len(b) != 0 || e != api.ErrWide {
			t.Errorf("Put(%d, %d) = % x, %d", least(size), size, b, e)
		}
		if b, e := octet.Put(math.MaxUint64, size); len(b) != 0 || e != api.ErrWide {
			t.Errorf("Put of the greatest number, %d = % x, %d", size, b, e)
		}
		want := bytes.Repeat([]byte{0xff}, size)
		if b, e := octet.Put(least(size)-1, size); !bytes.Equal(b, want) || e != api.OK {
			t.Errorf("Put(%d, %d) = % x, %d", least(size)-1, size, b, e)
		}
	}
}

func TestP1_1PutByDivision(t *testing.T) {
	for size := 1; size <= 8; size++ {
		for _, n := range edges(size) {
			b, e := octet.Put(n, size)
			if len(b) != size || e != api.OK {
				t.Fatalf("Put(%d, %d) = % x, %d", n, size, b, e)
			}
			left := n
			for i := range b {
				if uint64(b[i]) != left%256 {
					t.Errorf("Put(%d, %d) = % x: byte %d", n, size, b, i)
				}
				left /= 256
			}
		}
	}
}

func TestP1_1PutOfWrongSizes(t *testing.T) {
	for _, size := range wrongSizes {
		for _, n := range []uint64{0, 1, 256, math.MaxUint64} {
			if b, e := octet.Put(n, size); len(b) != 0 || e != api.ErrInput {
				t.Errorf("Put(%d, %d) = % x, %d", n, size, b, e)
			}
		}
	}
}

func TestP1_2Take(t *testing.T) {
	for _, c := range []struct {
		b    string
		size int
		n    uint64
		rest string
		e    api.Errno
	}{
		{"\x02\x01\x07", 2, 258, "\x07", api.OK},
		{"\x02", 2, 0, "", api.ErrShort},
		{"", 9, 0, "", api.ErrInput},
		{"", 1, 0, "", api.ErrShort},
		{"\x05", 1, 5, "", api.OK},
		{"\x05\x06", 1, 5, "\x06", api.OK},
		{"\x01\x02\x03\x04\x05\x06\x07\x08", 8, 0x0807060504030201, "", api.OK},
		{"\xff\xff\xff\xff\xff\xff\xff\xff\x01\x00", 8, math.MaxUint64, "\x01\x00", api.OK},
		{"\x00\x00\x00\x00\x00\x00\x00\x80", 8, 1 << 63, "", api.OK},
		{"\x01\x02\x03\x04\x05\x06\x07", 8, 0, "", api.ErrShort},
	} {
		n, rest, e := octet.Take([]byte(c.b), c.size)
		if n != c.n || string(rest) != c.rest || e != c.e {
			t.Errorf("Take(% x, %d) = %d, % x, %d", c.b, c.size, n, rest, e)
		}
	}
}

func TestP1_2TakeOfEachSizeAndLength(t *testing.T) {
	for size := 1; size <= 8; size++ {
		for have := range 20 {
			n, rest, e := octet.Take(count(have), size)
			if have < size {
				if n != 0 || len(rest) != 0 || e != api.ErrShort {
					t.Errorf("Take of %d bytes, %d = %d, % x, %d", have, size, n, rest, e)
				}
				continue
			}
			want := uint64(0)
			for i := size; i > 0; i-- {
				want = want*256 + uint64(i)
			}
			if n != want || !bytes.Equal(rest, count(have)[size:]) || e != api.OK {
				t.Errorf("Take of %d bytes, %d = %d, % x, %d", have, size, n, rest, e)
			}
		}
	}
}

func TestP1_2TakeOfWrongSizes(t *testing.T) {
	for _, size := range wrongSizes {
		for _, b := range [][]byte{nil, {}, {1}, count(16)} {
			if n, rest, e := octet.Take(b, size); n != 0 || len(rest) != 0 || e != api.ErrInput {
				t.Errorf("Take(% x, %d) = %d, % x, %d", b, size, n, rest, e)
			}
		}
	}
}

func TestP1_3Fields(t *testing.T) {
	for _, c := range []struct {
		b     string
		sizes []int
		want  []uint64
		rest  string
		e     api.Errno
	}{
		{"\x01\x02\x00\x03", []int{1, 2}, []uint64{1, 2}, "\x03", api.OK},
		{"\x01", []int{1, 1}, nil, "", api.ErrShort},
		{"\x01", []int{9, 1}, nil, "", api.ErrInput},
		{"\x05", nil, nil, "\x05", api.OK},
		{"\x05\x06", []int{}, nil, "\x05\x06", api.OK},
		{"", nil, nil, "", api.OK},
		{"", []int{1}, nil, "", api.ErrShort},
		{"\x01\x02", []int{1, 1}, []uint64{1, 2}, "", api.OK},
		{"\xff\xff\xff\xff\xff\xff\xff\xff\x09", []int{8, 1}, []uint64{math.MaxUint64, 9}, "", api.OK},
		{"\x01\x02\x03\x04\x05\x06\x07\x08", []int{8, 1}, nil, "", api.ErrShort},
	} {
		ns, rest, e := octet.Fields([]byte(c.b), c.sizes...)
		if !slices.Equal(ns, c.want) || string(rest) != c.rest || e != c.e {
			t.Errorf("Fields(% x, %v) = %v, % x, %d", c.b, c.sizes, ns, rest, e)
		}
	}
}

func TestP1_3FieldsOfWrongSizes(t *testing.T) {
	for _, size := range wrongSizes {
		for _, sizes := range [][]int{{size}, {size, 1}, {1, size}, {8, 8, 8, size}, {1, size, 1}, {size, size}, {size, -size}} {
			for _, b := range [][]byte{nil, {1}, count(64)} {
				ns, rest, e := octet.Fields(b, sizes...)
				if len(ns) != 0 || len(rest) != 0 || e != api.ErrInput {
					t.Errorf("Fields(% x, %v) = %v, % x, %d", b, sizes, ns, rest, e)
				}
			}
		}
	}
}

func TestP1_4Join(t *testing.T) {
	for _, c := range []struct {
		parts [][]byte
		want  string
	}{
		{nil, ""},
		{[][]byte{}, ""},
		{[][]byte{nil}, ""},
		{[][]byte{nil, {}, nil}, ""},
		{[][]byte{{1}}, "\x01"},
		{[][]byte{{1, 2}, nil, {9}}, "\x01\x02\x09"},
		{[][]byte{{}, {0}, {0, 0}, {7}}, "\x00\x00\x00\x07"},
		{[][]byte{{3, 4}, {1, 2}}, "\x03\x04\x01\x02"},
	} {
		if b := octet.Join(c.parts...); string(b) != c.want {
			t.Errorf("Join(% x) = % x, want % x", c.parts, b, c.want)
		}
	}
	if b := octet.Join(); len(b) != 0 {
		t.Errorf("Join() = % x", b)
	}
	long := make([][]byte, 300)
	for i := range long {
		long[i] = []byte{byte(i)}
	}
	b := octet.Join(long...)
	if len(b) != 300 || b[0] != 0 || b[255] != 255 || b[256] != 0 || b[299] != 43 {
		t.Errorf("Join of 300 parts = % x", b)
	}
}

func TestP1_5Pad(t *testing.T) {
	for _, c := range []struct {
		b    string
		size int
		want string
		e    api.Errno
	}{
		{"\x01", 3, "\x01\x00\x00", api.OK},
		{"\x01\x02", 1, "", api.ErrWide},
		{"", 65, "", api.ErrInput},
		{"", 0, "", api.OK},
		{"\x01", 0, "", api.ErrWide},
		{"", 1, "\x00", api.OK},
		{"\x01\x02", 2, "\x01\x02", api.OK},
	} {
		if b, e := octet.Pad([]byte(c.b), c.size); string(b) != c.want || e != c.e {
			t.Errorf("Pad(% x, %d) = % x, %d", c.b, c.size, b, e)
		}
	}
}

func TestP1_5PadOfEachLengthAndSize(t *testing.T) {
	for have := 0; have <= api.Size+2; have++ {
		for size := -2; size <= api.Size+2; size++ {
			b, e := octet.Pad(count(have), size)
			switch {
			case size < 0 || size > api.Size:
				if len(b) != 0 || e != api.ErrInput {
					t.Errorf("Pad of %d bytes, %d = % x, %d", have, size, b, e)
				}
			case have > size:
				if len(b) != 0 || e != api.ErrWide {
					t.Errorf("Pad of %d bytes, %d = % x, %d", have, size, b, e)
				}
			default:
				want := append(count(have), make([]byte, size-have)...)
				if !bytes.Equal(b, want) || e != api.OK {
					t.Errorf("Pad of %d bytes, %d = % x, %d", have, size, b, e)
				}
			}
		}
	}
	for _, size := range []int{math.MinInt, math.MaxInt, 1 << 40} {
		if b, e := octet.Pad(count(2), size); len(b) != 0 || e != api.ErrInput {
			t.Errorf("Pad of 2 bytes, %d = % x, %d", size, b, e)
		}
	}
}

func TestP1_6Blank(t *testing.T) {
	if !octet.Blank(nil) || !octet.Blank([]byte{}) {
		t.Error("Blank of none = false")
	}
	for n := 1; n <= api.Size+1; n++ {
		if !octet.Blank(make([]byte, n)) {
			t.Errorf("Blank of %d zeros = false", n)
		}
		for at := range n {
			for _, x := range []byte{1, 0x80, 0xff} {
				b := make([]byte, n)
				b[at] = x
				if octet.Blank(b) {
					t.Errorf("Blank(% x) = true", b)
				}
			}
		}
	}
	if !octet.Blank([]byte{0, 0, 1}[:2]) {
		t.Error("Blank has looked behind the end")
	}
}

func TestP1_7TakeOfPut(t *testing.T) {
	for size := 1; size <= 8; size++ {
		for _, n := range edges(size) {
			b, e := octet.Put(n, size)
			if e != api.OK {
				t.Fatalf("Put(%d, %d): %d", n, size, e)
			}
			if back, rest, e := octet.Take(b, size); back != n || len(rest) != 0 || e != api.OK {
				t.Errorf("Take of Put(%d, %d) = %d, % x, %d", n, size, back, rest, e)
			}
		}
	}
}

func TestP1_7PutOfTake(t *testing.T) {
	texts := [][]byte{count(8), count(9), count(20), make([]byte, 12), bytes.Repeat([]byte{0xff}, 11), {0, 0, 0, 0, 0, 0, 0, 1}, {0x80, 0, 0, 0, 0, 0, 0, 0x80, 0}}
	for _, b := range texts {
		for size := 1; size <= 8; size++ {
			n, rest, e := octet.Take(b, size)
			if e != api.OK {
				t.Fatalf("Take(% x, %d): %d", b, size, e)
			}
			form, e := octet.Put(n, size)
			if all := octet.Join(form, rest); !bytes.Equal(all, b) || e != api.OK {
				t.Errorf("Put of Take(% x, %d), and the rest, are % x, %d", b, size, all, e)
			}
		}
	}
}

// sizesOf tells the sizes 1 to 8 that a number's digits to the base 8 say.
func sizesOf(code, n int) []int {
	sizes := make([]int, n)
	for i := range sizes {
		sizes[i] = code%8 + 1
		code /= 8
	}
	return sizes
}

func TestP1_8FieldsIsTakeOfEach(t *testing.T) {
	for n, codes := 0, 1; n <= 3; n, codes = n+1, codes*8 {
		for code := range codes {
			sizes := sizesOf(code, n)
			for have := range 27 {
				checkFields(t, count(have), sizes)
			}
		}
	}
}

// checkFields holds Fields against Take of each size; where one Take is short, Fields is.
func checkFields(t *testing.T, b []byte, sizes []int) {
	t.Helper()
	ns, rest, e := octet.Fields(b, sizes...)
	var want []uint64
	left := b
	for _, size := range sizes {
		n, behind, short := octet.Take(left, size)
		if short != api.OK {
			if len(ns) != 0 || len(rest) != 0 || e != api.ErrShort {
				t.Errorf("Fields(% x, %v) = %v, % x, %d", b, sizes, ns, rest, e)
			}
			return
		}
		want = append(want, n)
		left = behind
	}
	if !slices.Equal(ns, want) || !bytes.Equal(rest, left) || e != api.OK {
		t.Errorf("Fields(% x, %v) = %v, % x, %d, want %v, % x", b, sizes, ns, rest, e, want, left)
	}
}

func TestP1_9FormsDifferAsNumbersDo(t *testing.T) {
	for size := 1; size <= 8; size++ {
		for _, n := range edges(size) {
			for _, m := range edges(size) {
				a, _ := octet.Put(n, size)
				b, _ := octet.Put(m, size)
				if bytes.Equal(a, b) != (n == m) {
					t.Errorf("Put of %d and %d, %d: % x, % x", n, m, size, a, b)
				}
			}
		}
	}
	seen := map[string]int{}
	for n := range 1 << 16 {
		b, _ := octet.Put(uint64(n), 2)
		seen[string(b)]++
	}
	if len(seen) != 1<<16 {
		t.Errorf("the numbers of two bytes have %d forms", len(seen))
	}
}

func TestR3NothingHandedInIsChanged(t *testing.T) {
	b := roomy(count(12))
	parts := [][]byte{b, b[:3], nil}
	sizes := append(make([]int, 0, 9), 1, 2, 3)
	sizes[:9][3] = 77
	octet.Take(b, 3)
	octet.Fields(b, sizes...)
	octet.Fields(b)
	octet.Join(b, b)
	octet.Join(parts...)
	octet.Pad(b, 20)
	octet.Pad(b[:3], 4)
	octet.Blank(b)
	if !keeps(b, count(12)) {
		t.Errorf("the bytes are % x now", b[:cap(b)])
	}
	if !slices.Equal(sizes[:4], []int{1, 2, 3, 77}) {
		t.Errorf("the sizes are %v now", sizes[:4])
	}
	if len(parts) != 3 || len(parts[0]) != 12 || len(parts[1]) != 3 || parts[2] != nil {
		t.Errorf("the parts are % x now", parts)
	}
}

func TestR3WhatIsHandedOutIsNew(t *testing.T) {
	b := roomy(count(12))
	_, rest, _ := octet.Take(b, 3)
	_, behind, _ := octet.Fields(b, 1, 8)
	_, whole, _ := octet.Fields(b)
	_, none, _ := octet.Take(b, 8)
	_, end, _ := octet.Fields(b, 8, 4)
	padded, _ := octet.Pad(b, 12)
	empty, _ := octet.Pad(b[:0], 0)
	answers := [][]byte{rest, behind, whole, none, end, padded, empty, octet.Join(b), octet.Join(b, nil), octet.Join(nil, b[:4]), octet.Join(b[:0])}
	for i, l := range answers {
		scrawl(l)
		if !keeps(b, count(12)) {
			t.Fatalf("answer %d shares memory with the bytes: % x", i, b[:cap(b)])
		}
	}
	first, _ := octet.Put(7, 4)
	scrawl(first)
	if second, _ := octet.Put(7, 4); !bytes.Equal(second, []byte{7, 0, 0, 0}) {
		t.Errorf("two answers of Put share memory: % x", second)
	}
}

func TestR3NothingHandedInIsKept(t *testing.T) {
	b := count(12)
	_, rest, _ := octet.Take(b, 3)
	_, behind, _ := octet.Fields(b, 1, 2)
	joined := octet.Join(b)
	padded, _ := octet.Pad(b, 12)
	scrawl(b)
	if !bytes.Equal(rest, count(12)[3:]) || !bytes.Equal(behind, count(12)[3:]) || !bytes.Equal(joined, count(12)) || !bytes.Equal(padded, count(12)) {
		t.Errorf("answers have changed: % x, % x, % x, % x", rest, behind, joined, padded)
	}
}

func TestR4NilAndEmptyAreOne(t *testing.T) {
	for _, size := range []int{-1, 0, 1, 8, 9, 64, 65} {
		n, r, e := octet.Take(nil, size)
		n2, r2, e2 := octet.Take([]byte{}, size)
		if n != n2 || len(r) != len(r2) || e != e2 {
			t.Errorf("Take of none, %d", size)
		}
		l, r, e := octet.Fields(nil, size)
		l2, r2, e2 := octet.Fields([]byte{}, size)
		if len(l) != len(l2) || len(r) != len(r2) || e != e2 {
			t.Errorf("Fields of none, %d", size)
		}
		p, e := octet.Pad(nil, size)
		p2, e2 := octet.Pad([]byte{}, size)
		if !bytes.Equal(p, p2) || e != e2 {
			t.Errorf("Pad of none, %d", size)
		}
	}
}

func TestR5TheSameIsAnsweredAgain(t *testing.T) {
	b := count(10)
	for range 3 {
		octet.Put(99, 3)
		octet.Take(b, 1)
		octet.Fields(b, 9)
		octet.Pad(b, 3)
		p, _ := octet.Put(258, 2)
		n, rest, _ := octet.Take(b, 2)
		ns, behind, _ := octet.Fields(b, 2, 1)
		if string(p) != "\x02\x01" || n != 513 || len(rest) != 8 || !slices.Equal(ns, []uint64{513, 3}) || len(behind) != 7 {
			t.Errorf("% x, %d, % x, %v, % x", p, n, rest, ns, behind)
		}
	}
}
