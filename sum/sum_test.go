package sum_test

import (
	"bytes"
	"math"
	"slices"
	"testing"

	"wicket/api"
	"wicket/sum"
)

// pushed pushes bit by bit, in the document's words.
func pushed(x uint32, c byte) uint32 {
	x ^= uint32(c)
	for range 8 {
		low := x % 2
		x /= 2
		if low == 1 {
			x ^= 0xedb88320
		}
	}
	return x
}

// pushedZeros pushes n times by the byte 0, one by one.
func pushedZeros(x uint32, n int) uint32 {
	for range n {
		x = pushed(x, 0)
	}
	return x
}

// lap: so many pushes by the byte 0 leave each number as it was.
const lap = 1<<32 - 1

// numbers tells each bit alone, and some with many bits.
func numbers() []uint32 {
	l := []uint32{0, 3, 0xf, 0xf0, 0xff, 0x12345678, 0xdeadbeef, 0xedb88320, 0x7fffffff, 0xfffffffe, 0xffffffff}
	for i := range 32 {
		l = append(l, 1<<i)
	}
	return l
}

// text tells n bytes without a plain pattern; another seed has other ones.
func text(n, seed int) []byte {
	b := make([]byte, n)
	x := uint32(seed)*2654435761 + 1
	for i := range b {
		x = x*1664525 + 1013904223
		b[i] = byte(x >> 24)
	}
	return b
}

// join tells Join where there is no error.
func join(t *testing.T, a, b uint32, n int) uint32 {
	t.Helper()
	s, e := sum.Join(a, b, n)
	if e != api.OK {
		t.Fatalf("Join(%08x, %08x, %d): %d", a, b, n, e)
	}
	return s
}

// turned tells Turned where there is no error.
func turned(t *testing.T, n, at int, x byte) uint32 {
	t.Helper()
	s, e := sum.Turned(n, at, x)
	if e != api.OK {
		t.Fatalf("Turned(%d, %d, %d): %d", n, at, x, e)
	}
	return s
}

func TestP2_1APush(t *testing.T) {
	for x := range 256 {
		c := byte(x)
		if s := turned(t, 1, 0, c); s != pushed(0, c) {
			t.Errorf("0 pushed by %d: %08x, want %08x", c, s, pushed(0, c))
		}
		if s := ^sum.Of([]byte{c}); s != pushed(0xffffffff, c) {
			t.Errorf("ffffffff pushed by %d: %08x, want %08x", c, s, pushed(0xffffffff, c))
		}
	}
	for _, x := range numbers() {
		if s := join(t, x, 0, 1); s != pushed(x, 0) {
			t.Errorf("%08x pushed by 0: %08x, want %08x", x, s, pushed(x, 0))
		}
	}
}

func TestP2_2Of(t *testing.T) {
	for _, c := range []struct {
		parts []string
		want  uint32
	}{
		{nil, 0},
		{[]string{}, 0},
		{[]string{""}, 0},
		{[]string{"", "", ""}, 0},
		{[]string{"123456789"}, 0xcbf43926},
		{[]string{"\x00"}, 0xd202ef8d},
		{[]string{"\xff"}, 0xff000000},
		{[]string{"a", "bc"}, 0x352441c2},
		{[]string{"abc"}, 0x352441c2},
		{[]string{"", "ab", "", "c", ""}, 0x352441c2},
		{[]string{"bc", "a"}, sum.Of([]byte("bca"))},
		{[]string{"\x00\x00\x00\x00"}, 0x2144df1c},
	} {
		var parts [][]byte
		for _, p := range c.parts {
			parts = append(parts, []byte(p))
		}
		if s := sum.Of(parts...); s != c.want {
			t.Errorf("Of(%q) = %08x, want %08x", c.parts, s, c.want)
		}
	}
	if s := sum.Of(nil, []byte("abc"), nil); s != 0x352441c2 {
		t.Errorf("Of of abc between none = %08x", s)
	}
	if s := sum.Of(); s != 0 {
		t.Errorf("Of() = %08x", s)
	}
}

func TestP2_2OfIsAPushByEachByte(t *testing.T) {
	b := text(700, 1)
	x := uint32(0xffffffff)
	for i, c := range b {
		if s := sum.Of(b[:i]); s != ^x {
			t.Fatalf("Of of %d bytes = %08x, want %08x", i, s, ^x)
		}
		x = pushed(x, c)
	}
}

func TestP2_2PartsAreOneText(t *testing.T) {
	b := text(40, 2)
	whole := sum.Of(b)
	for i := range len(b) + 1 {
		for j := i; j <= len(b); j++ {
			if s := sum.Of(b[:i], b[i:j], b[j:]); s != whole {
				t.Fatalf("cut at %d and %d: %08x, want %08x", i, j, s, whole)
			}
		}
	}
	singles := make([][]byte, len(b))
	for i := range b {
		singles[i] = b[i : i+1]
	}
	if s := sum.Of(singles...); s != whole {
		t.Errorf("by single bytes: %08x, want %08x", s, whole)
	}
}

func TestP2_3Join(t *testing.T) {
	for _, c := range []struct {
		a, b uint32
		n    int
		want uint32
		e    api.Errno
	}{
		{0, 7, 0, 7, api.OK},
		{0xcafe, 0, 0, 0xcafe, api.OK},
		{0xffff0000, 0x00ffff00, 0, 0xff00ff00, api.OK},
		{1, 0, 1, 0x77073096, api.OK},
		{1, 0x77073096, 1, 0, api.OK},
		{1, 2, -1, 0, api.ErrInput},
		{0, 0, -1, 0, api.ErrInput},
		{1, 2, math.MinInt, 0, api.ErrInput},
		{1, 2, math.MinInt + 1, 0, api.ErrInput},
		{1, 2, -lap, 0, api.ErrInput},
		{0, 9, math.MaxInt, 9, api.OK},
		{sum.Of([]byte("12345")), sum.Of([]byte("6789")), 4, 0xcbf43926, api.OK},
	} {
		if s, e := sum.Join(c.a, c.b, c.n); s != c.want || e != c.e {
			t.Errorf("Join(%08x, %08x, %d) = %08x, %d, want %08x, %d", c.a, c.b, c.n, s, e, c.want, c.e)
		}
	}
}

func TestP2_3JoinPushesByZeros(t *testing.T) {
	for _, a := range numbers() {
		want := a
		for n := range 300 {
			if s := join(t, a, 0, n); s != want {
				t.Fatalf("Join(%08x, 0, %d) = %08x, want %08x", a, n, s, want)
			}
			if s := join(t, a, 0xdeadbeef, n); s != want^0xdeadbeef {
				t.Fatalf("Join(%08x, deadbeef, %d) = %08x, want %08x", a, n, s, want^0xdeadbeef)
			}
			want = pushed(want, 0)
		}
	}
	for _, n := range []int{1 << 12, 65535, 65536, 1<<20 - 1} {
		if s := join(t, 0x12345678, 0, n); s != pushedZeros(0x12345678, n) {
			t.Errorf("Join(12345678, 0, %d) = %08x", n, s)
		}
	}
}

// The pushes by the byte 0 go round: so a great n is as one that can be pushed one by one.
func TestP2_3JoinEndsSoonAtGreatNumbers(t *testing.T) {
	for _, laps := range []int{1, 2, 3, 1 << 16, 1<<30 + 1, math.MaxInt/lap - 1} {
		for _, more := range []int{0, 1, 5, 1000} {
			for _, a := range []uint32{1, 0x80000000, 0x12345678, 0xffffffff} {
				if s := join(t, a, 5, laps*lap+more); s != pushedZeros(a, more)^5 {
					t.Errorf("Join(%08x, 5, %d) = %08x", a, laps*lap+more, s)
				}
			}
		}
	}
	for _, n := range []int{1 << 40, 1 << 62, math.MaxInt - 1, math.MaxInt} {
		half := join(t, 0x12345678, 0, n/2)
		if s := join(t, half, 0, n-n/2); s != join(t, 0x12345678, 0, n) {
			t.Errorf("%d pushes are not its halves' pushes: %08x", n, s)
		}
	}
}

func TestP2_4Turned(t *testing.T) {
	for _, c := range []struct {
		n, at int
		x     byte
		want  uint32
		e     api.Errno
	}{
		{1, 0, 1, 0x77073096, api.OK},
		{2, 0, 0, 0, api.OK},
		{2, 2, 1, 0, api.ErrInput},
		{0, 0, 1, 0, api.ErrInput},
		{2, 1, 1, 0x77073096, api.OK},
		{2, 1, 128, 0xedb88320, api.OK},
		{2, 3, 1, 0, api.ErrInput},
		{2, -1, 1, 0, api.ErrInput},
		{2, 2, 0, 0, api.ErrInput},
		{2, -1, 0, 0, api.ErrInput},
		{0, -1, 1, 0, api.ErrInput},
		{-1, -2, 1, 0, api.ErrInput},
		{-1, -1, 1, 0, api.ErrInput},
		{-1, 0, 1, 0, api.ErrInput},
		{math.MinInt, math.MaxInt, 1, 0, api.ErrInput},
		{math.MaxInt, math.MinInt, 1, 0, api.ErrInput},
		{math.MinInt, math.MinInt, 1, 0, api.ErrInput},
		{math.MinInt + 1, math.MinInt, 1, 0, api.ErrInput},
		{math.MaxInt, math.MaxInt, 1, 0, api.ErrInput},
		{math.MaxInt, math.MaxInt - 1, 1, 0x77073096, api.OK},
		{math.MaxInt, 0, 0, 0, api.OK},
		{1 << 32, 0, 128, 0xedb88320, api.OK},
	} {
		if s, e := sum.Turned(c.n, c.at, c.x); s != c.want || e != c.e {
			t.Errorf("Turned(%d, %d, %d) = %08x, %d, want %08x, %d", c.n, c.at, c.x, s, e, c.want, c.e)
		}
	}
}

func TestP2_4TurnedPushesOnceAndThenByZeros(t *testing.T) {
	for n := 1; n <= 70; n++ {
		for at := range n {
			for _, x := range []byte{1, 2, 16, 0x5a, 128, 255} {
				if s := turned(t, n, at, x); s != pushedZeros(pushed(0, x), n-1-at) {
					t.Fatalf("Turned(%d, %d, %d) = %08x", n, at, x, s)
				}
			}
		}
	}
}

func TestP2_4TurnedEndsSoonAtGreatNumbers(t *testing.T) {
	for x := range 256 {
		c := byte(x)
		want := join(t, pushed(0, c), 0, math.MaxInt-1)
		if s := turned(t, math.MaxInt, 0, c); s != want {
			t.Fatalf("Turned at the beginning of the longest text, by %d: %08x, want %08x", c, s, want)
		}
		want = pushedZeros(pushed(0, c), 3)
		if s := turned(t, math.MaxInt, math.MaxInt-4, c); s != want {
			t.Fatalf("Turned ahead of the end of the longest text, by %d: %08x, want %08x", c, s, want)
		}
	}
}

func TestP2_5OfTwoIsJoin(t *testing.T) {
	for _, n := range []int{0, 1, 2, 15, 16, 17, 64, 200} {
		for _, m := range []int{0, 1, 3, 31, 32, 33, 255, 256, 257} {
			x, y := text(n, n+1), text(m, m+2)
			if s := join(t, sum.Of(x), sum.Of(y), m); s != sum.Of(x, y) {
				t.Errorf("texts of %d and %d bytes: %08x, want %08x", n, m, s, sum.Of(x, y))
			}
		}
	}
}

func TestP2_6ATurnedByte(t *testing.T) {
	for _, n := range []int{1, 2, 7, 64} {
		b := text(n, 3)
		was := sum.Of(b)
		for at := range b {
			for x := range 256 {
				d := turned(t, n, at, byte(x))
				b[at] ^= byte(x)
				if s := sum.Of(b); s != was^d {
					t.Fatalf("byte %d of %d by %d: %08x, want %08x", at, n, x, s, was^d)
				}
				b[at] ^= byte(x)
			}
		}
	}
}

func TestP2_6SeveralTurnedBytes(t *testing.T) {
	b, by := text(50, 4), text(50, 5)
	want := sum.Of(b)
	for at, x := range by {
		b[at] ^= x
		want ^= turned(t, len(b), at, x)
		if s := sum.Of(b); s != want {
			t.Fatalf("the bytes 0 to %d: %08x, want %08x", at, s, want)
		}
	}
}

func TestP2_6TurnedIs0JustIfXIs0(t *testing.T) {
	for _, n := range []int{1, 2, 3, 64, 1000, lap, math.MaxInt} {
		for _, at := range []int{0, n / 2, n - 1} {
			for x := range 256 {
				if s := turned(t, n, at, byte(x)); (s == 0) != (x == 0) {
					t.Errorf("Turned(%d, %d, %d) = %08x", n, at, x, s)
				}
			}
		}
	}
}

func TestP2_7FourBytesSideBySide(t *testing.T) {
	for _, n := range []int{4, 5, 64} {
		b := text(n, 6)
		for at := range n - 3 {
			seen := map[uint32]int{}
			patterns := windows()
			for _, p := range patterns {
				c := bytes.Clone(b)
				for i := range 4 {
					c[at+i] ^= p[i]
				}
				seen[sum.Of(c)]++
			}
			if len(seen) != len(patterns) {
				t.Errorf("%d texts that differ at %d to %d of %d have %d sums", len(patterns), at, at+3, n, len(seen))
			}
		}
	}
}

// windows tells different texts of four bytes: each byte alone with all its values, and many together.
func windows() [][4]byte {
	l := [][4]byte{{}}
	for i := range 4 {
		for x := 1; x < 256; x++ {
			var p [4]byte
			p[i] = byte(x)
			l = append(l, p)
		}
	}
	for x := 1; x < 2000; x++ {
		l = append(l, [4]byte{byte(x), byte(x >> 8), byte(x * 7), 1})
	}
	return l
}

func TestP2_8ATextWithItsSumBehindIt(t *testing.T) {
	for n := range 130 {
		b := text(n, n)
		s := sum.Of(b)
		behind := []byte{byte(s), byte(s >> 8), byte(s >> 16), byte(s >> 24)}
		if all := sum.Of(b, behind); all != 0x2144df1c {
			t.Errorf("of %d bytes: %08x", n, all)
		}
		if all := sum.Of(append(b, behind...)); all != 0x2144df1c {
			t.Errorf("of %d bytes, in one part: %08x", n, all)
		}
	}
}

func TestP2_9JoinsTogether(t *testing.T) {
	lengths := []int{0, 1, 2, 9, 64, 1000, lap, 1 << 40, math.MaxInt / 2}
	for _, n := range lengths {
		for _, m := range lengths {
			for _, a := range []uint32{0, 1, 0x80000000, 0x12345678} {
				b, c := a^0xdeadbeef, a*3+1
				left := join(t, join(t, a, b, n), c, m)
				right := join(t, a, join(t, b, c, m), n+m)
				if left != right {
					t.Errorf("%08x, %08x, %08x by %d and %d: %08x, %08x", a, b, c, n, m, left, right)
				}
			}
		}
	}
	left := join(t, join(t, 1, 2, math.MaxInt-1), 3, 1)
	if right := join(t, 1, join(t, 2, 3, 1), math.MaxInt); left != right {
		t.Errorf("up to the greatest number: %08x, %08x", left, right)
	}
}

func TestR3NothingHandedInIsChangedOrKept(t *testing.T) {
	whole := text(64, 7)
	b := bytes.Clone(whole)
	parts := [][]byte{b[:10], b[10:10], nil, b[20:30]}
	s := sum.Of(parts...)
	if !bytes.Equal(b, whole) {
		t.Errorf("the bytes are % x now", b)
	}
	if len(parts[0]) != 10 || len(parts[1]) != 0 || parts[2] != nil || len(parts[3]) != 10 {
		t.Errorf("the parts are % x now", parts)
	}
	b[0] ^= 1
	if again := sum.Of(parts...); again != s^turned(t, 20, 0, 1) {
		t.Errorf("a changed text: %08x", again)
	}
}

func TestR4NilAndEmptyAreOne(t *testing.T) {
	b := []byte("abc")
	sums := []uint32{sum.Of(b), sum.Of(nil, b), sum.Of([]byte{}, b), sum.Of(b, nil), sum.Of(b, []byte{})}
	if len(slices.Compact(sums)) != 1 {
		t.Errorf("the sums are %08x", sums)
	}
}

func TestR5TheSameIsAnsweredAgain(t *testing.T) {
	for range 3 {
		sum.Of(text(9, 8))
		sum.Join(9, 9, 9)
		sum.Turned(9, 9, 9)
		a := join(t, 1, 0, 1)
		if b := turned(t, 1, 0, 1); a != 0x77073096 || b != a || sum.Of([]byte("abc")) != 0x352441c2 {
			t.Errorf("%08x, %08x", a, b)
		}
	}
}
