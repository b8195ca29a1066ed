package super_test

import (
	"bytes"
	"hash/crc32"
	"math"
	"slices"
	"testing"

	"wicket/api"
	"wicket/super"
)

// spare is how many bytes lie behind a list that roomy makes.
const spare = 100

// filler is the byte in that room, which nobody may touch.
const filler = 0xa5

// roomy tells the same bytes with spare room behind them.
func roomy(b []byte) []byte {
	l := append(bytes.Clone(b), bytes.Repeat([]byte{filler}, spare)...)
	return l[:len(b)]
}

// keeps tells whether bytes made by roomy still are as they were made, spare room too.
func keeps(l, was []byte) bool {
	return bytes.Equal(l, was) && bytes.Equal(l[len(l):len(l)+spare], bytes.Repeat([]byte{filler}, spare))
}

// scrawl writes over bytes, spare room too.
func scrawl(l []byte) {
	l = l[:cap(l)]
	for i := range l {
		l[i] = 0x99
	}
}

// chance tells numbers that look like chance and are the same in each run.
type chance uint64

func (c *chance) next() uint64 {
	*c ^= *c << 13
	*c ^= *c >> 7
	*c ^= *c << 17
	return uint64(*c)
}

// upTo tells a number from the least to the most.
func (c *chance) upTo(least, most int) int {
	return least + int(c.next()%uint64(most-least+1))
}

// summed tells 64 bytes: those given, zeros up to byte 59, and their sum, reckoned by another hand than the layer's.
func summed(b ...byte) []byte {
	all := make([]byte, 64)
	copy(all[:60], b)
	s := crc32.ChecksumIEEE(all[:60])
	for i := range 4 {
		all[60+i] = byte(s >> (8 * i))
	}
	return all
}

// laid tells the chapter's 64 bytes of a superblock, byte by byte.
func laid(s super.Super) []byte {
	b := make([]byte, 60)
	copy(b, []byte{0x57, 0x49, 0x43, 0x4b, 0x45, 0x54, 1, 0})
	b[8] = byte(s.Config.Blocks)
	b[9] = byte(s.Config.LogCap)
	b[10] = byte(s.Config.MaxRes)
	b[11] = byte(s.Config.High)
	b[12] = byte(s.Config.Clients)
	for i := range 8 {
		b[16+i] = byte(s.Tail >> (8 * i))
		b[24+i] = byte(s.Life >> (8 * i))
	}
	return summed(b...)
}

// rewritten tells a superblock's bytes with the byte at set to x, and the sum that is right for them.
func rewritten(s super.Super, at int, x byte) []byte {
	b := laid(s)[:60]
	b[at] = x
	return summed(b...)
}

// config and block tell a configuration and a superblock of their parts, in the chapter's order.
func config(blocks, logCap, maxRes, high, clients int) api.Config {
	return api.Config{Blocks: blocks, LogCap: logCap, MaxRes: maxRes, High: high, Clients: clients}
}

func block(c api.Config, tail, life uint64) super.Super {
	return super.Super{Config: c, Tail: tail, Life: life}
}

// usual is the configuration of the chapter's examples.
func usual() api.Config {
	return config(8, 16, 4, 12, 3)
}

// mayBe is the document's sentence on configurations, in its own order.
func mayBe(c api.Config) bool {
	if c.Blocks < 1 || c.Blocks > 64 {
		return false
	}
	if c.LogCap < 2 || c.LogCap > 64 {
		return false
	}
	if c.MaxRes < 1 || c.MaxRes > 16 || c.MaxRes > c.Blocks || c.MaxRes > c.LogCap-1 {
		return false
	}
	if c.High < 1 || c.High > c.LogCap {
		return false
	}
	return c.Clients >= 1 && c.Clients <= 8
}

// wanted is what Check has to answer.
func wanted(s super.Super) api.Errno {
	if !mayBe(s.Config) {
		return api.ErrConfig
	}
	if s.Tail > 1<<62 || s.Life == 0 || s.Life > 1<<62 {
		return api.ErrSuper
	}
	return api.OK
}

// configs calls f with each configuration of parts at and beyond their edges, those that hang on another part too.
func configs(f func(api.Config)) {
	blocks := []int{math.MinInt, -1, 0, 1, 2, 8, 15, 16, 17, 63, 64, 65, 256, 257, math.MaxInt}
	logs := []int{math.MinInt, -1, 0, 1, 2, 3, 16, 17, 18, 63, 64, 65, 258, math.MaxInt}
	for _, b := range blocks {
		for _, l := range logs {
			for _, r := range []int{math.MinInt, -1, 0, 1, 2, 15, 16, 17, b - 1, b, b + 1, l - 2, l - 1, l, 257, math.MaxInt} {
				for _, h := range []int{math.MinInt, -1, 0, 1, 2, l - 1, l, l + 1, 64, 65, 257, math.MaxInt} {
					for _, c := range []int{math.MinInt, -1, 0, 1, 3, 8, 9, 257, math.MaxInt} {
						f(config(b, l, r, h, c))
					}
				}
			}
		}
	}
}

// whole tells configurations that may be, with each part at both of its edges.
func whole() []api.Config {
	return []api.Config{
		usual(),
		config(1, 2, 1, 1, 1), config(1, 2, 1, 2, 1), config(1, 2, 1, 2, 8),
		config(64, 64, 16, 64, 8), config(64, 64, 16, 1, 1), config(64, 64, 1, 64, 8),
		config(64, 2, 1, 2, 8), config(1, 64, 1, 64, 8),
		config(16, 17, 16, 17, 1), config(17, 17, 16, 9, 2), config(16, 64, 16, 33, 4), config(64, 17, 16, 5, 5),
		config(5, 6, 5, 6, 7), config(4, 6, 4, 6, 7), config(9, 6, 5, 3, 7),
	}
}

// lost tells configurations that may not be, by one part each.
func lost() []api.Config {
	list := []api.Config{{}}
	for _, n := range []int{math.MinInt, -1, 0, 65, 264, math.MaxInt} {
		list = append(list, config(n, 16, 1, 12, 3))
	}
	for _, n := range []int{math.MinInt, -1, 0, 1, 65, 272, math.MaxInt} {
		list = append(list, config(8, n, 1, 1, 3))
	}
	for _, n := range []int{math.MinInt, -1, 0, 9, 16, 17, 260, math.MaxInt} {
		list = append(list, config(8, 16, n, 12, 3))
	}
	list = append(list, config(64, 64, 17, 12, 3), config(64, 16, 16, 12, 3), config(15, 64, 16, 12, 3), config(1, 2, 2, 1, 1))
	for _, n := range []int{math.MinInt, -1, 0, 17, 268, math.MaxInt} {
		list = append(list, config(8, 16, 4, n, 3))
	}
	list = append(list, config(64, 64, 16, 65, 3))
	for _, n := range []int{math.MinInt, -1, 0, 9, 259, math.MaxInt} {
		list = append(list, config(8, 16, 4, 12, n))
	}
	return list
}

// tails and lives are such as may be: both edges, and such as differ in one bit.
func tails() []uint64 {
	return append(lives(), 0)
}

func lives() []uint64 {
	list := []uint64{255, 257, 0x0102030405060708, 0x3fedcba987654321, api.MaxPos - 1, api.MaxPos - 16, api.MaxPos - 15}
	for i := range 63 {
		list = append(list, 1<<i)
	}
	return list
}

// beyond are numbers above the greatest.
func beyond() []uint64 {
	return []uint64{api.MaxPos + 1, api.MaxPos + 256, api.MaxPos | 1<<55, 1<<63 - 1, 1 << 63, 1<<63 + 1, math.MaxUint64}
}

// good tells many superblocks that may be.
func good() []super.Super {
	var list []super.Super
	for _, c := range whole() {
		for _, n := range tails() {
			list = append(list, block(c, n, 1), block(c, n, api.MaxPos))
		}
		for _, n := range lives() {
			list = append(list, block(c, 3, n))
		}
	}
	for b := 1; b <= 64; b++ {
		list = append(list, block(config(b, 40, 1, 30, 2), 7, 9))
	}
	for l := 2; l <= 64; l++ {
		list = append(list, block(config(33, l, 1, 1, 2), 7, 9), block(config(33, 64, 1, l, 4), 7, 9))
	}
	for r := 1; r <= 16; r++ {
		list = append(list, block(config(16, 17, r, 2, 2), 7, 9))
	}
	for c := 1; c <= 8; c++ {
		list = append(list, block(config(16, 17, 3, 2, c), 7, 10))
	}
	return list
}

// some tells a few superblocks that may be.
func some() []super.Super {
	return []super.Super{
		block(usual(), 0, 1),
		block(config(1, 2, 1, 1, 1), 0, 1),
		block(config(64, 64, 16, 64, 8), api.MaxPos, api.MaxPos),
		block(config(9, 6, 5, 3, 7), 0x0102030405060708, 0x1112131415161718),
		block(config(33, 40, 7, 30, 2), 255, 1<<40),
	}
}

// encode tells Encode where there is no error.
func encode(t *testing.T, s super.Super) []byte {
	t.Helper()
	b, e := super.Encode(s)
	if e != api.OK {
		t.Fatalf("Encode(%+v): %d", s, e)
	}
	return b
}

// refused fails, if Decode does not answer this error alone.
func refused(t *testing.T, b []byte, want api.Errno) {
	t.Helper()
	if s, e := super.Decode(b); e != want || s != (super.Super{}) {
		t.Fatalf("Decode(% x): %+v, %d, want error %d", b, s, e, want)
	}
}

func TestP7_1_Config(t *testing.T) {
	for _, c := range whole() {
		if e := super.Config(c); e != api.OK {
			t.Errorf("Config(%+v): %d", c, e)
		}
	}
	for _, c := range lost() {
		if e := super.Config(c); e != api.ErrConfig {
			t.Errorf("Config(%+v): %d, want ErrConfig", c, e)
		}
	}
}

func TestP7_1_EdgesCrossed(t *testing.T) {
	taken := 0
	configs(func(c api.Config) {
		want := api.ErrConfig
		if mayBe(c) {
			want = api.OK
			taken++
		}
		if e := super.Config(c); e != want {
			t.Fatalf("Config(%+v): %d, want %d", c, e, want)
		}
	})
	if taken < 1000 {
		t.Errorf("%d configurations that may be: too few to tell anything", taken)
	}
}

func TestP7_1_AllOfFourParts(t *testing.T) {
	for b := -1; b <= 66; b++ {
		for l := -1; l <= 66; l++ {
			for r := -1; r <= 18; r++ {
				for _, h := range []int{-1, 0, 1, l, l + 1} {
					c := config(b, l, r, h, 4)
					if e := super.Config(c); (e == api.OK) != mayBe(c) || e != api.OK && e != api.ErrConfig {
						t.Fatalf("Config(%+v): %d", c, e)
					}
				}
			}
		}
	}
}

func TestP7_2_Check(t *testing.T) {
	for _, s := range good() {
		if e := super.Check(s); e != api.OK {
			t.Errorf("Check(%+v): %d", s, e)
		}
	}
	for _, c := range whole() {
		for _, n := range beyond() {
			for _, s := range []super.Super{block(c, n, 1), block(c, 0, n), block(c, n, n), block(c, n, 0)} {
				if e := super.Check(s); e != api.ErrSuper {
					t.Errorf("Check(%+v): %d, want ErrSuper", s, e)
				}
			}
		}
		if e := super.Check(block(c, 0, 0)); e != api.ErrSuper {
			t.Errorf("Check of the life 0: %d, want ErrSuper", e)
		}
	}
}

func TestP7_2_ConfigurationFirst(t *testing.T) {
	for _, c := range lost() {
		for _, tail := range []uint64{0, 5, api.MaxPos, api.MaxPos + 1, math.MaxUint64} {
			for _, life := range []uint64{0, 1, api.MaxPos, api.MaxPos + 1, math.MaxUint64} {
				if e := super.Check(block(c, tail, life)); e != api.ErrConfig {
					t.Errorf("Check(%+v, %d, %d): %d, want ErrConfig", c, tail, life, e)
				}
			}
		}
	}
}

func TestP7_2_EdgesCrossed(t *testing.T) {
	numbers := []uint64{0, 1, 2, 1<<62 - 1, 1 << 62, 1<<62 + 1, 1 << 63, 1<<64 - 1}
	for _, c := range append(whole(), lost()...) {
		for _, tail := range numbers {
			for _, life := range numbers {
				s := block(c, tail, life)
				if e := super.Check(s); e != wanted(s) {
					t.Fatalf("Check(%+v): %d, want %d", s, e, wanted(s))
				}
			}
		}
	}
}

func TestP7_3_EncodesTheBytes(t *testing.T) {
	for _, s := range good() {
		if b := encode(t, s); !bytes.Equal(b, laid(s)) {
			t.Fatalf("Encode(%+v): % x, want % x", s, b, laid(s))
		}
	}
}

func TestP7_3_RefusesWhatCheckRefuses(t *testing.T) {
	numbers := []uint64{0, 1, 5, api.MaxPos, api.MaxPos + 1, math.MaxUint64}
	for _, c := range append(whole(), lost()...) {
		for _, tail := range numbers {
			for _, life := range numbers {
				s := block(c, tail, life)
				b, e := super.Encode(s)
				if e != wanted(s) || (e == api.OK) != (len(b) == 64) || e != api.OK && len(b) != 0 {
					t.Fatalf("Encode(%+v): % x, %d, want error %d", s, b, e, wanted(s))
				}
			}
		}
	}
}

func TestP7_4_DecodesTheBytes(t *testing.T) {
	for _, s := range good() {
		if got, e := super.Decode(laid(s)); e != api.OK || got != s {
			t.Fatalf("Decode(% x): %+v, %d, want %+v", laid(s), got, e, s)
		}
	}
}

func TestP7_4_NotSixtyFourBytes(t *testing.T) {
	b := laid(block(usual(), 5, 2))
	for _, l := range [][]byte{nil, {}, {0x57}, b[:6], b[:60], b[:63], b[1:], append(bytes.Clone(b), 0), append([]byte{0}, b...), bytes.Repeat(b, 2), make([]byte, 63), make([]byte, 65), make([]byte, 4096)} {
		refused(t, l, api.ErrInput)
	}
	refused(t, make([]byte, 64), api.ErrSuper)
	if _, e := super.Decode(b); e != api.OK {
		t.Errorf("64 bytes of a superblock: %d", e)
	}
}

func TestP7_4_RightSumWrongBytes(t *testing.T) {
	zeros := []int{7, 13, 14, 15}
	for at := 32; at < 60; at++ {
		zeros = append(zeros, at)
	}
	for _, s := range some() {
		right := laid(s)
		for x := range 256 {
			for at := range 7 {
				if byte(x) != right[at] {
					refused(t, rewritten(s, at, byte(x)), api.ErrSuper)
				}
			}
			for _, at := range zeros {
				if x != 0 {
					refused(t, rewritten(s, at, byte(x)), api.ErrSuper)
				}
			}
		}
	}
}

func TestP7_4_AnotherName(t *testing.T) {
	rest := laid(block(usual(), 0, 1))[6:60]
	for _, name := range []string{"wicket", "WICKEt", "Wicket", "TEKCIW", "WICKED", "\x00\x00\x00\x00\x00\x00", "      "} {
		refused(t, summed(append([]byte(name), rest...)...), api.ErrSuper)
	}
	if s, e := super.Decode(summed(append([]byte("WICKET"), rest...)...)); e != api.OK || s != block(usual(), 0, 1) {
		t.Errorf("the name itself: %+v, %d", s, e)
	}
}

func TestP7_4_AnotherVersion(t *testing.T) {
	for _, v := range []byte{0, 2, 3, 17, 129, 255} {
		for _, s := range some() {
			refused(t, rewritten(s, 6, v), api.ErrSuper)
		}
	}
}

func TestP7_4_ConfigurationThatMayNotBe(t *testing.T) {
	// Each of the five bytes takes each number; what is wrong of a configuration is told as a superblock's fault.
	taken := 0
	for _, s := range some() {
		for at := range 5 {
			for x := range 256 {
				want := s
				*[]*int{&want.Config.Blocks, &want.Config.LogCap, &want.Config.MaxRes, &want.Config.High, &want.Config.Clients}[at] = x
				b := rewritten(s, 8+at, byte(x))
				if !mayBe(want.Config) {
					refused(t, b, api.ErrSuper)
					continue
				}
				taken++
				if got, e := super.Decode(b); e != api.OK || got != want {
					t.Fatalf("Decode(% x): %+v, %d, want %+v", b, got, e, want)
				}
			}
		}
	}
	if taken < 100 {
		t.Errorf("%d were taken: too few to tell anything", taken)
	}
	refused(t, laid(block(api.Config{}, 0, 1)), api.ErrSuper)
	refused(t, laid(block(config(255, 255, 255, 255, 255), 0, 1)), api.ErrSuper)
}

func TestP7_4_TailOrLifeThatMayNotBe(t *testing.T) {
	for _, c := range whole() {
		for _, n := range beyond() {
			refused(t, laid(block(c, n, 1)), api.ErrSuper)
			refused(t, laid(block(c, 0, n)), api.ErrSuper)
			refused(t, laid(block(c, n, n)), api.ErrSuper)
			refused(t, laid(block(c, n, 0)), api.ErrSuper)
		}
		refused(t, laid(block(c, 0, 0)), api.ErrSuper)
		refused(t, laid(block(c, 7, 0)), api.ErrSuper)
	}
	refused(t, laid(block(config(0, 16, 4, 12, 3), 0, 0)), api.ErrSuper)
	refused(t, laid(block(config(8, 16, 4, 12, 9), math.MaxUint64, 0)), api.ErrSuper)
}

func TestP7_4_WrongSum(t *testing.T) {
	for _, s := range some() {
		b := laid(s)
		for _, n := range [][]byte{{0, 0, 0, 0}, {255, 255, 255, 255}, {b[63], b[62], b[61], b[60]}, {^b[60], ^b[61], ^b[62], ^b[63]}} {
			refused(t, append(bytes.Clone(b[:60]), n...), api.ErrSuper)
		}
	}
	refused(t, append(laid(block(usual(), 5, 1))[:60], laid(block(usual(), 6, 1))[60:]...), api.ErrSuper)
	refused(t, append(laid(block(usual(), 5, 1))[:60], laid(block(usual(), 5, 2))[60:]...), api.ErrSuper)
}

func TestP7_5_ThereAndBack(t *testing.T) {
	back := func(s super.Super) {
		if got, e := super.Decode(encode(t, s)); e != api.OK || got != s {
			t.Fatalf("Decode(Encode(%+v)): %+v, %d", s, got, e)
		}
	}
	for _, s := range good() {
		back(s)
	}
	c := chance(1)
	for range 5000 {
		blocks, logCap := c.upTo(1, 64), c.upTo(2, 64)
		of := config(blocks, logCap, c.upTo(1, min(16, blocks, logCap-1)), c.upTo(1, logCap), c.upTo(1, 8))
		back(block(of, c.next()>>2, c.next()>>2+1))
	}
}

func TestP7_5_EveryConfigurationThatMayBe(t *testing.T) {
	// All Blocks, LogCaps and MaxRes, each with one High and one number of clients.
	for b := 1; b <= 64; b++ {
		for l := 2; l <= 64; l++ {
			for r := 1; r <= min(16, b, l-1); r++ {
				s := block(config(b, l, r, 1+(b*r)%l, 1+(b+l+r)%8), uint64(b), uint64(l))
				if got, e := super.Decode(encode(t, s)); e != api.OK || got != s {
					t.Fatalf("Decode(Encode(%+v)): %+v, %d", s, got, e)
				}
			}
		}
	}
}

func TestP7_5_OneForm(t *testing.T) {
	// Bytes that are nearly a superblock's: with their right sum, so that the parts alone tell.
	taken := 0
	c := chance(2)
	for range 30000 {
		b := laid(some()[c.next()%5])[:60]
		for range c.next() % 3 {
			b[c.next()%60] = byte(c.next() % 66)
		}
		b = summed(b...)
		s, e := super.Decode(b)
		if e != api.OK {
			refused(t, b, api.ErrSuper)
			continue
		}
		taken++
		if got := encode(t, s); !bytes.Equal(got, b) {
			t.Fatalf("Encode(Decode(% x)): % x", b, got)
		}
	}
	if taken < 1000 || taken > 29000 {
		t.Errorf("%d of 30000 were taken: too few or too many to tell anything", taken)
	}
}

func TestP7_6_OneByteTurned(t *testing.T) {
	for _, s := range some() {
		b := encode(t, s)
		for at := range b {
			for x := 1; x < 256; x++ {
				b[at] ^= byte(x)
				refused(t, b, api.ErrSuper)
				b[at] ^= byte(x)
			}
			if got, e := super.Decode(b); e != api.OK || got != s {
				t.Fatalf("byte %d turned and turned back: %+v, %d, want %+v", at, got, e, s)
			}
		}
	}
}

func TestP7_6_FourBytesTurned(t *testing.T) {
	c := chance(3)
	for _, s := range some() {
		b := encode(t, s)
		for wide := 2; wide <= 4; wide++ {
			for at := 0; at+wide <= 64; at++ {
				for range 40 {
					other := bytes.Clone(b)
					for i := range wide {
						other[at+i] ^= byte(c.next())
					}
					if !bytes.Equal(other, b) {
						refused(t, other, api.ErrSuper)
					}
				}
			}
		}
	}
}

func TestP7_6_TwoBitsTurned(t *testing.T) {
	// The least differences: two bits turned, in bytes that are at most three apart.
	for _, s := range some() {
		b := encode(t, s)
		for first := range 64 * 8 {
			for second := first + 1; second < 64*8 && second/8 <= first/8+3; second++ {
				b[first/8] ^= 1 << (first % 8)
				b[second/8] ^= 1 << (second % 8)
				refused(t, b, api.ErrSuper)
				b[first/8] ^= 1 << (first % 8)
				b[second/8] ^= 1 << (second % 8)
			}
		}
	}
}

func TestP7_6_AnotherSuperblocksPart(t *testing.T) {
	// Parts that another superblock might have, without that superblock's sum.
	for _, s := range some() {
		for _, other := range some() {
			a, b := laid(s), laid(other)
			for at := range 61 {
				mixed := bytes.Clone(a)
				copy(mixed[at:at+4], b[at:at+4])
				if !bytes.Equal(mixed, a) {
					refused(t, mixed, api.ErrSuper)
				}
			}
		}
	}
}

func TestP7_7_DifferentSuperblocksDifferentBytes(t *testing.T) {
	seen := map[[64]byte]super.Super{}
	all := map[super.Super]int{}
	for _, s := range good() {
		b := [64]byte(encode(t, s))
		if other, there := seen[b]; there && other != s {
			t.Fatalf("%+v and %+v have the same bytes", s, other)
		}
		seen[b] = s
		all[s]++
	}
	if len(seen) != len(all) || len(all) < 2000 {
		t.Errorf("%d different bytes of %d superblocks", len(seen), len(all))
	}
}

func TestP7_7_OnePartDiffers(t *testing.T) {
	first := block(config(9, 12, 4, 5, 3), 7, 11)
	for _, second := range []super.Super{
		block(config(10, 12, 4, 5, 3), 7, 11),
		block(config(9, 13, 4, 5, 3), 7, 11),
		block(config(9, 12, 5, 5, 3), 7, 11),
		block(config(9, 12, 4, 6, 3), 7, 11),
		block(config(9, 12, 4, 5, 4), 7, 11),
		block(config(9, 12, 4, 5, 3), 8, 11),
		block(config(9, 12, 4, 5, 3), 7, 12),
		block(config(9, 12, 4, 5, 3), 7+1<<32, 11),
		block(config(9, 12, 4, 5, 3), 7+1<<56, 11),
		block(config(9, 12, 4, 5, 3), 7, 11+1<<32),
		block(config(9, 12, 4, 5, 3), 7, 11+1<<56),
		block(config(9, 12, 4, 5, 3), 11, 7),
		block(config(12, 9, 4, 5, 3), 7, 11),
		block(config(9, 12, 5, 4, 3), 7, 11),
		block(config(9, 12, 4, 3, 5), 7, 11),
	} {
		a, b := encode(t, first), encode(t, second)
		if bytes.Equal(a, b) {
			t.Errorf("%+v and %+v: both % x", first, second, a)
		}
		if bytes.Equal(a[:60], b[:60]) {
			t.Errorf("%+v and %+v differ in the sum alone", first, second)
		}
	}
}

func TestR3_DecodeLeavesWhatItIsGiven(t *testing.T) {
	s := some()[3]
	b := laid(s)
	for _, was := range [][]byte{b, b[:63], rewritten(s, 59, 1), rewritten(s, 8, 0), append(bytes.Clone(b), 7), make([]byte, 64), {}} {
		l := roomy(was)
		super.Decode(l)
		if !keeps(l, was) {
			t.Errorf("Decode(% x) changed it: % x", was, l[:len(l)+spare])
		}
	}
}

func TestR3_DecodeKeepsNothing(t *testing.T) {
	want := some()[3]
	l := roomy(laid(want))
	s, _ := super.Decode(l)
	scrawl(l)
	if s != want {
		t.Errorf("written over, the superblock became %+v", s)
	}
	if again, e := super.Decode(laid(want)); e != api.OK || again != want {
		t.Errorf("later: %+v, %d", again, e)
	}
}

func TestR3_EncodeHandsOutNewMemory(t *testing.T) {
	for _, s := range some() {
		first, second := encode(t, s), encode(t, s)
		scrawl(first)
		if !bytes.Equal(second, laid(s)) {
			t.Errorf("%+v: the second answer changed with the first", s)
		}
		third := encode(t, s)
		grown := append(second, 1, 2, 3)
		scrawl(grown)
		if !bytes.Equal(third, laid(s)) || !bytes.Equal(encode(t, s), laid(s)) {
			t.Errorf("%+v: an answer changed as another one grew", s)
		}
	}
}

func TestR4_NilIsNoByte(t *testing.T) {
	refused(t, nil, api.ErrInput)
	refused(t, []byte{}, api.ErrInput)
	refused(t, roomy(nil), api.ErrInput)
}

func TestR5_SpareRoomTellsNothing(t *testing.T) {
	for _, s := range some() {
		b := laid(s)
		long := append(bytes.Clone(b), 1, 2, 3)
		for _, l := range [][]byte{b, slices.Clip(b), long[:64], roomy(b)} {
			if got, e := super.Decode(l); e != api.OK || got != s {
				t.Errorf("Decode with room %d: %+v, %d, want %+v", cap(l), got, e, s)
			}
		}
		refused(t, b[:63], api.ErrInput)
	}
}

func TestR5_NothingIsKeptFromCallToCall(t *testing.T) {
	for range 3 {
		for _, s := range some() {
			refused(t, rewritten(s, 59, 1), api.ErrSuper)
			if b := encode(t, s); !bytes.Equal(b, laid(s)) {
				t.Fatalf("Encode(%+v): % x", s, b)
			}
			super.Encode(block(api.Config{}, 1, 1))
			if got, e := super.Decode(laid(s)); e != api.OK || got != s {
				t.Fatalf("Decode of %+v: %+v, %d", s, got, e)
			}
			if e := super.Check(s); e != api.OK {
				t.Fatalf("Check(%+v): %d", s, e)
			}
		}
	}
}

func TestExample1(t *testing.T) {
	if e := super.Config(config(8, 16, 4, 12, 3)); e != api.OK {
		t.Errorf("the configuration itself: %d", e)
	}
	for _, c := range []api.Config{
		config(0, 16, 4, 12, 3), config(65, 16, 4, 12, 3),
		config(8, 1, 4, 12, 3), config(8, 65, 4, 12, 3),
		config(8, 16, 0, 12, 3), config(8, 16, 17, 12, 3), config(8, 16, 9, 12, 3), config(64, 16, 16, 12, 3),
		config(8, 16, 4, 0, 3), config(8, 16, 4, 17, 3),
		config(8, 16, 4, 12, 0), config(8, 16, 4, 12, 9),
	} {
		if e := super.Config(c); e != api.ErrConfig {
			t.Errorf("Config(%+v): %d, want ErrConfig", c, e)
		}
	}
}

func TestExample2(t *testing.T) {
	want := []byte{0x57, 0x49, 0x43, 0x4b, 0x45, 0x54, 0x01, 0x00, 0x08, 0x10, 0x04, 0x0c, 0x03}
	want = append(want, make([]byte, 11)...)
	want = append(want, 1)
	want = append(want, make([]byte, 35)...)
	b := encode(t, block(usual(), 0, 1))
	if len(want) != 60 || !bytes.Equal(b[:60], want) || !bytes.Equal(b, summed(want...)) {
		t.Errorf("% x, want % x", b, summed(want...))
	}
}

func TestExample3(t *testing.T) {
	for _, c := range []struct {
		s    super.Super
		want api.Errno
	}{
		{block(usual(), 0, 0), api.ErrSuper},
		{block(usual(), 1<<62+1, 1), api.ErrSuper},
		{block(usual(), 1<<62, 1), api.OK},
		{block(config(0, 16, 4, 12, 3), 0, 0), api.ErrConfig},
	} {
		if _, e := super.Encode(c.s); e != c.want {
			t.Errorf("Encode(%+v): %d, want %d", c.s, e, c.want)
		}
	}
}

func TestExample4(t *testing.T) {
	b := encode(t, block(usual(), 0, 1))
	refused(t, b[:63], api.ErrInput)
	refused(t, make([]byte, 64), api.ErrSuper)
	for x := 1; x < 256; x++ {
		refused(t, rewritten(block(usual(), 0, 1), 40, byte(x)), api.ErrSuper)
	}
}
