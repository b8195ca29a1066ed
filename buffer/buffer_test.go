package buffer_test

import (
	"math"
	"slices"
	"testing"

	"wicket/api"
	"wicket/buffer"
)

// chance tells numbers that look like chance and are the same in each run.
type chance uint64

func (c *chance) next() uint64 {
	*c ^= *c << 13
	*c ^= *c >> 7
	*c ^= *c << 17
	return uint64(*c)
}

// below tells one of 0 to n - 1.
func (c *chance) below(n int) int {
	return int(c.next() % uint64(n))
}

// value tells one of a few values, the zeros among them, or one that hardly any other is like.
func (c *chance) value() api.Value {
	var v api.Value
	switch c.below(4) {
	case 0:
	case 1:
		v[c.below(len(v))] = byte(1 + c.below(2))
	default:
		for i := range v {
			v[i] = byte(c.next() >> 20)
		}
	}
	return v
}

// form tells some form: so many of the 64 blocks as chance says.
func (c *chance) form() []int {
	n := 1 + c.below(16)
	var f []int
	for block := range 64 {
		// Each block is taken as often as it has to be for so many to stand there at the end.
		if c.below(64-block) < n-len(f) {
			f = append(f, block)
		}
	}
	return f
}

// model is a buffer by another hand: its form, and all that was ever written into it.
type model struct {
	form   []int
	writes []api.Image
}

// has tells whether a block stands in the form.
func (m *model) has(block int) bool {
	for _, b := range m.form {
		if b == block {
			return true
		}
	}
	return false
}

func (m *model) write(block int, v api.Value) api.Errno {
	if !m.has(block) {
		return api.ErrOutside
	}
	m.writes = append(m.writes, api.Image{Block: block, Value: v})
	return api.OK
}

func (m *model) read(block int) (api.Value, bool, api.Errno) {
	if !m.has(block) {
		return api.Value{}, false, api.ErrOutside
	}
	for i := len(m.writes) - 1; i >= 0; i-- {
		if m.writes[i].Block == block {
			return m.writes[i].Value, true, api.OK
		}
	}
	return api.Value{}, false, api.OK
}

func (m *model) images() []api.Image {
	var l []api.Image
	for block := range 64 {
		if v, written, _ := m.read(block); written {
			l = append(l, api.Image{Block: block, Value: v})
		}
	}
	return l
}

func (m *model) copy() *model {
	return &model{slices.Clone(m.form), slices.Clone(m.writes)}
}

// may tells whether a list is a form, by chapter 5's words: each element is held against the one ahead of it.
func may(list []int) bool {
	ahead := -1
	for _, block := range list {
		if block <= ahead || block > 63 {
			return false
		}
		ahead = block
	}
	return len(list) > 0 && len(list) <= 16
}

// filled tells a value whose bytes all are one.
func filled(n byte) api.Value {
	var v api.Value
	for i := range v {
		v[i] = n
	}
	return v
}

// zeros is the value that Read tells beside false, and that may be written like any other one.
func zeros() api.Value { return api.Value{} }

// rise tells so many numbers, each one above the one ahead of it.
func rise(from, n int) []int {
	var l []int
	for i := range n {
		l = append(l, from+i)
	}
	return l
}

// far tells numbers that are no block, and of some blocks those that a narrower number, or another sign, would take for them.
func far(list ...int) []int {
	l := []int{-1, -2, -64, 64, 65, 127, 128, 256, 1 << 31, 1 << 32, 1 << 62, math.MinInt, math.MinInt + 1, math.MaxInt - 1, math.MaxInt}
	for _, b := range list {
		l = append(l, ^b, b+64, b+128, b+256, b+1<<16, b+1<<32, b+math.MinInt, b-64, b-256)
	}
	return l
}

// of makes a buffer.
func of(t *testing.T, form ...int) *buffer.Buffer {
	t.Helper()
	b, e := buffer.New(form)
	if e != api.OK || b == nil {
		t.Fatalf("New(%v) = %v, %d", form, b, e)
	}
	return b
}

// is holds an error against another one.
func is(t *testing.T, got, want api.Errno) {
	t.Helper()
	if got != want {
		t.Fatalf("it answers %d, want %d", got, want)
	}
}

// reads holds what Read tells of a block against a value, which was written.
func reads(t *testing.T, b *buffer.Buffer, block int, want api.Value) {
	t.Helper()
	if v, written, e := b.Read(block); v != want || !written || e != api.OK {
		t.Fatalf("Read(%d) = %v, %v, %d, want %v", block, v, written, e, want)
	}
}

// lacks holds what Read tells of blocks against what it tells of one without a value.
func lacks(t *testing.T, b *buffer.Buffer, list ...int) {
	t.Helper()
	for _, block := range list {
		if v, written, e := b.Read(block); v != zeros() || written || e != api.OK {
			t.Fatalf("Read(%d) = %v, %v, %d, and it has no value", block, v, written, e)
		}
	}
}

// outside asks for blocks that do not stand in the form; what the buffer has may not change.
func outside(t *testing.T, b *buffer.Buffer, list ...int) {
	t.Helper()
	form, images := b.Form(), b.Images()
	for _, block := range list {
		for _, v := range []api.Value{zeros(), filled(9)} {
			if e := b.Write(block, v); e != api.ErrOutside {
				t.Fatalf("Write(%d) = %d of %v", block, e, form)
			}
		}
		if v, written, e := b.Read(block); v != zeros() || written || e != api.ErrOutside {
			t.Fatalf("Read(%d) = %v, %v, %d of %v", block, v, written, e, form)
		}
		has(t, b, form, images...)
	}
}

// has holds the form and the images of a buffer, and their number, against others.
func has(t *testing.T, b *buffer.Buffer, form []int, images ...api.Image) {
	t.Helper()
	if f := b.Form(); !slices.Equal(f, form) {
		t.Fatalf("Form = %v, want %v", f, form)
	}
	if l := b.Images(); !slices.Equal(l, images) {
		t.Fatalf("Images = %v, want %v", l, images)
	}
	if n := b.Len(); n != len(images) {
		t.Fatalf("Len = %d, want %d", n, len(images))
	}
}

// tells holds all that a buffer tells against its model: the blocks of a store, and those beside them, one by one.
func tells(t *testing.T, b *buffer.Buffer, m *model) {
	t.Helper()
	has(t, b, m.form, m.images()...)
	for block := -1; block <= 64; block++ {
		v, written, e := b.Read(block)
		if wantV, wantW, wantE := m.read(block); v != wantV || written != wantW || e != wantE {
			t.Fatalf("Read(%d) = %v, %v, %d, want %v, %v, %d", block, v, written, e, wantV, wantW, wantE)
		}
	}
	if b.Len() > len(m.form) {
		t.Fatalf("Len = %d of %d blocks", b.Len(), len(m.form))
	}
}

// again makes a buffer of what another one tells: P16.6.
func again(t *testing.T, b *buffer.Buffer) *buffer.Buffer {
	t.Helper()
	twin := of(t, b.Form()...)
	for _, i := range b.Images() {
		is(t, twin.Write(i.Block, i.Value), api.OK)
	}
	return twin
}

// pair is a buffer beside its model: each call is done with both.
type pair struct {
	t *testing.T
	b *buffer.Buffer
	m *model
}

func paired(t *testing.T, form ...int) *pair {
	t.Helper()
	return &pair{t, of(t, form...), &model{form: slices.Clone(form)}}
}

func (p *pair) tells() {
	p.t.Helper()
	tells(p.t, p.b, p.m)
}

func (p *pair) write(block int, v api.Value) {
	p.t.Helper()
	if e, want := p.b.Write(block, v), p.m.write(block, v); e != want {
		p.t.Fatalf("Write(%d) = %d, want %d: of %v", block, e, want, p.m.form)
	}
	p.tells()
}

func (p *pair) copy() *pair {
	return &pair{p.t, p.b.Copy(), p.m.copy()}
}

// spare is how many elements lie behind a list that roomy makes.
const spare = 40

// roomy tells the same list with spare room behind it.
func roomy[E any](list []E, filler E) []E {
	l := append(slices.Clone(list), slices.Repeat([]E{filler}, spare)...)
	return l[:len(list)]
}

// keeps tells whether a list made by roomy still is as it was made, spare room too.
func keeps[E comparable](l, was []E, filler E) bool {
	return slices.Equal(l, was) && slices.Equal(l[len(l):len(l)+spare], slices.Repeat([]E{filler}, spare))
}

// spoil writes over a list, spare room too.
func spoil[E any](l []E, with E) {
	l = l[:cap(l)]
	for i := range l {
		l[i] = with
	}
}

// spoilAnswers writes over all that a buffer hands out, and into the room behind it, and lets it grow.
func spoilAnswers(b *buffer.Buffer) {
	bad := api.Image{Block: -99, Value: filled(99)}
	spoil(b.Form(), -99)
	spoil(b.Images(), bad)
	spoil(append(b.Form(), 98, 97), -98)
	spoil(append(b.Images(), bad, bad), bad)
	_ = append(b.Form(), 5)
	_ = append(b.Images(), bad)
}

func TestP16_1_NewMadeAndRefusedOfAllShortLists(t *testing.T) {
	all := [][]int{nil}
	for from := 0; len(all[len(all)-1]) < 4; {
		until := len(all)
		for _, l := range all[from:until] {
			for _, block := range []int{math.MinInt, -1, 0, 1, 2, 62, 63, 64, math.MaxInt} {
				all = append(all, append(slices.Clone(l), block))
			}
		}
		from = until
	}
	made := 0
	for _, form := range all {
		b, e := buffer.New(form)
		if !may(form) {
			if b != nil || e != api.ErrForm {
				t.Fatalf("New(%v) = %v, %d, want ErrForm", form, b, e)
			}
			continue
		}
		made++
		if b == nil || e != api.OK {
			t.Fatalf("New(%v) = %v, %d", form, b, e)
		}
		tells(t, b, &model{form: form})
	}
	// Of five blocks: one, two, three or four of them.
	if made != 5+10+10+5 {
		t.Errorf("%d buffers were made", made)
	}
}

func TestP16_1_NewOfOneBlock(t *testing.T) {
	for block := range 64 {
		b := of(t, block)
		tells(t, b, &model{form: []int{block}})
	}
	for _, block := range far() {
		if b, e := buffer.New([]int{block}); b != nil || e != api.ErrForm {
			t.Errorf("New([%d]) = %v, %d", block, b, e)
		}
	}
}

func TestP16_1_NewOfSoManyBlocks(t *testing.T) {
	for n := range 130 {
		for _, from := range []int{-1, 0, 1, 20, 47, 48, 49, 63 - n, 64 - n, 65 - n} {
			form := rise(from, n)
			b, e := buffer.New(form)
			if n >= 1 && n <= 16 && from >= 0 && from+n <= 64 {
				is(t, e, api.OK)
				tells(t, b, &model{form: form})
			} else if b != nil || e != api.ErrForm {
				t.Fatalf("New of %d blocks from %d on = %v, %d", n, from, b, e)
			}
		}
	}
	wide := []int{0, 1, 5, 9, 10, 14, 20, 21, 30, 31, 40, 50, 58, 61, 62, 63}
	tells(t, of(t, wide...), &model{form: wide})
}

func TestP16_1_NewRefused(t *testing.T) {
	for name, form := range map[string][]int{
		"nil":                          nil,
		"no blocks":                    {},
		"falling":                      {2, 1},
		"falling from the last one on": {0, 1, 2, 3, 2},
		"falling in the midst":         {0, 3, 2, 4},
		"falling to the least one":     {1, 2, 0},
		"the same twice":               {1, 1},
		"the same twice at the begin":  {0, 0, 1},
		"the same twice in the midst":  {0, 4, 4, 9},
		"the same twice at the end":    {0, 62, 63, 63},
		"the same twice, apart":        {1, 2, 1},
		"one below 0":                  {-1},
		"one below 0 ahead of others":  {-1, 0, 1},
		"one below 0 behind others":    {3, -3},
		"the one behind the greatest":  {64},
		"the same behind the greatest": {63, 64},
		"far above":                    {0, 1 << 32},
		"one too many":                 rise(0, 17),
		"one too many, with a double":  append(rise(0, 16), 15),
		"one too many, from the end":   rise(47, 17),
		"all that a store may have":    rise(0, 64),
		"far too many":                 rise(0, 100000),
		"sixteen times the same":       slices.Repeat([]int{7}, 16),
	} {
		if b, e := buffer.New(form); b != nil || e != api.ErrForm {
			t.Errorf("%s: New = %v, %d", name, b, e)
		}
	}
}

func TestP16_1_BuffersOfTheirOwn(t *testing.T) {
	a, b := paired(t, 1, 4), paired(t, 1, 4)
	a.write(4, filled(1))
	b.tells()
	b.write(4, filled(2))
	b.write(1, filled(3))
	a.tells()
	a.write(1, zeros())
	b.tells()
	c := paired(t, 4, 5)
	c.write(4, filled(4))
	a.tells()
	b.tells()
}

func TestP16_2_EachBlockOfTheForm(t *testing.T) {
	for _, form := range [][]int{{0}, {63}, {31}, {0, 63}, {1, 4}, rise(0, 16), rise(48, 16), {0, 2, 3, 7, 15, 16, 31, 32, 33, 47, 48, 49, 60, 61, 62, 63}} {
		for _, block := range form {
			p := paired(t, form...)
			p.tells()
			p.write(block, filled(7))
			has(t, p.b, form, api.Image{Block: block, Value: filled(7)})
			reads(t, p.b, block, filled(7))
		}
	}
}

func TestP16_2_BlocksThatDoNotStandInTheForm(t *testing.T) {
	for _, form := range [][]int{{0}, {63}, {5}, {1, 4}, {0, 63}, rise(0, 16), rise(20, 16), {3, 5, 7, 9, 20, 40, 60}} {
		b := of(t, form...)
		no := slices.DeleteFunc(append(rise(-3, 70), far(form...)...), func(block int) bool {
			return slices.Contains(form, block)
		})
		outside(t, b, no...)
		lacks(t, b, form...)
		has(t, b, form)
		for i, block := range form {
			is(t, b.Write(block, filled(byte(i))), api.OK)
		}
		outside(t, b, no...)
		for i, block := range form {
			reads(t, b, block, filled(byte(i)))
		}
	}
}

func TestP16_2_BetweenBelowAndAbove(t *testing.T) {
	b := of(t, 10, 12, 20)
	outside(t, b, 11, 13, 19, 9, 0, 21, 63, -1)
	is(t, b.Write(12, filled(1)), api.OK)
	outside(t, b, 11, 13, 19, 9, 0, 21, 63, -1)
	has(t, b, []int{10, 12, 20}, api.Image{Block: 12, Value: filled(1)})
	lacks(t, b, 10, 20)
}

func TestP16_2_WhatABlockHasBeenThrough(t *testing.T) {
	b := of(t, 2, 3)
	image := func(v api.Value) {
		t.Helper()
		reads(t, b, 3, v)
		has(t, b, []int{2, 3}, api.Image{Block: 3, Value: v})
		lacks(t, b, 2)
	}
	lacks(t, b, 2, 3)
	has(t, b, []int{2, 3})
	for _, v := range []api.Value{filled(5), filled(6), filled(6), zeros(), zeros(), filled(5), {0: 1}, {31: 1}, {31: 255}, filled(255), zeros()} {
		is(t, b.Write(3, v), api.OK)
		image(v)
	}
}

func TestP16_2_ZerosAreAValue(t *testing.T) {
	for _, form := range [][]int{{0}, {5}, {63}, {0, 5, 63}} {
		p := paired(t, form...)
		for i, block := range form {
			lacks(t, p.b, block)
			p.write(block, zeros())
			reads(t, p.b, block, zeros())
			if n := p.b.Len(); n != i+1 {
				t.Errorf("Len = %d behind %d writes of zeros", n, i+1)
			}
		}
	}
}

func TestP16_2_EachByteOfAValue(t *testing.T) {
	b := of(t, 0, 9)
	is(t, b.Write(0, filled(3)), api.OK)
	for i := range len(api.Value{}) {
		for _, n := range []byte{1, 128, 255} {
			v := filled(3)
			v[i] += n
			is(t, b.Write(9, v), api.OK)
			reads(t, b, 9, v)
			reads(t, b, 0, filled(3))
			has(t, b, []int{0, 9}, api.Image{Block: 0, Value: filled(3)}, api.Image{Block: 9, Value: v})
		}
	}
}

func TestP16_3_ImagesWhateverTheOrderOfWrites(t *testing.T) {
	form := []int{0, 3, 4, 40, 63}
	runs := 0
	var try func(p *pair, left []int)
	try = func(p *pair, left []int) {
		runs++
		for i, block := range left {
			q := p.copy()
			q.write(block, filled(byte(block+1)))
			try(q, slices.Delete(slices.Clone(left), i, i+1))
		}
	}
	try(paired(t, form...), form)
	if runs != 1+5+20+60+120+120 {
		t.Errorf("%d orders were tried", runs)
	}
}

func TestP16_3_ImagesOfFallingAndOfRisingWrites(t *testing.T) {
	form := []int{0, 2, 3, 7, 15, 16, 31, 32, 33, 47, 48, 49, 60, 61, 62, 63}
	for n := 1; n <= len(form); n++ {
		var want []api.Image
		for _, block := range form[:n] {
			want = append(want, api.Image{Block: block, Value: filled(byte(block))})
		}
		rising, falling := of(t, form[:n]...), of(t, form[:n]...)
		has(t, rising, form[:n])
		for i := range n {
			is(t, rising.Write(form[i], filled(byte(form[i]))), api.OK)
			has(t, rising, form[:n], want[:i+1]...)
			is(t, falling.Write(form[n-1-i], filled(byte(form[n-1-i]))), api.OK)
			has(t, falling, form[:n], want[n-1-i:]...)
		}
	}
}

func TestP16_3_ImagesAndLenOfEachSubset(t *testing.T) {
	form := []int{1, 2, 8, 20, 21, 62}
	for set := range 1 << len(form) {
		b := of(t, form...)
		var want []api.Image
		for i, block := range form {
			if set>>i&1 == 1 {
				want = append(want, api.Image{Block: block, Value: filled(byte(i))})
			}
		}
		for i := range want {
			w := want[len(want)-1-i]
			is(t, b.Write(w.Block, w.Value), api.OK)
		}
		has(t, b, form, want...)
	}
}

func TestP16_3_FormStays(t *testing.T) {
	for _, form := range [][]int{{0}, {63}, {1, 4}, rise(0, 16), rise(48, 16)} {
		b := of(t, form...)
		for i, block := range form {
			is(t, b.Write(block, filled(byte(i))), api.OK)
			if f := b.Form(); !slices.Equal(f, form) {
				t.Fatalf("Form = %v, want %v", f, form)
			}
		}
	}
}

func TestP16_3_CopiesAndTheFirstBufferDoNotMeet(t *testing.T) {
	writes := map[string][]api.Image{
		"nothing":                {},
		"the first block":        {{Block: 1, Value: filled(21)}},
		"a block in the midst":   {{Block: 5, Value: filled(22)}},
		"the last block":         {{Block: 63, Value: filled(23)}},
		"zeros":                  {{Block: 5, Value: zeros()}},
		"all blocks, rising":     {{Block: 1, Value: filled(31)}, {Block: 5, Value: filled(32)}, {Block: 9, Value: filled(33)}, {Block: 63, Value: filled(34)}},
		"all blocks, falling":    {{Block: 63, Value: filled(41)}, {Block: 9, Value: filled(42)}, {Block: 5, Value: filled(43)}, {Block: 1, Value: filled(44)}},
		"one block, many values": {{Block: 9, Value: filled(51)}, {Block: 9, Value: filled(52)}, {Block: 9, Value: filled(52)}, {Block: 9, Value: zeros()}},
		"a block outside":        {{Block: 2, Value: filled(61)}},
	}
	// Ahead of the copy: none, some or all blocks have a value, with and without room behind them.
	before := [][]int{nil, {5}, {1, 63}, {63, 1}, {9, 5, 1}, {1, 5, 9, 63}, {63, 9, 5, 1}, {5, 5, 5}}
	for a, writesA := range writes {
		for b, writesB := range writes {
			for _, list := range before {
				first := paired(t, 1, 5, 9, 63)
				for i, block := range list {
					first.write(block, filled(byte(i+1)))
				}
				copied := first.copy()
				copied.tells()
				for i := range max(len(writesA), len(writesB)) {
					if i < len(writesA) {
						first.write(writesA[i].Block, writesA[i].Value)
						copied.tells()
					}
					if i < len(writesB) {
						copied.write(writesB[i].Block, writesB[i].Value)
						first.tells()
					}
				}
				if t.Failed() {
					t.Fatalf("%s, %s", a, b)
				}
			}
		}
	}
}

func TestP16_3_ACopyOfACopy(t *testing.T) {
	a := paired(t, 1, 2, 3)
	a.write(2, filled(1))
	b := a.copy()
	c := b.copy()
	all := []*pair{a, b, c, c.copy()}
	for i, p := range all {
		p.write(3, filled(byte(10+i)))
		p.write(1, filled(byte(20+i)))
		p.write(2, filled(byte(30+i)))
		for _, other := range all {
			other.tells()
		}
	}
	if n := of(t, 1, 2, 3).Copy().Copy().Copy().Len(); n != 0 {
		t.Errorf("Len = %d of a copy of a new one", n)
	}
}

func TestP16_3_ACopyOutlivesTheFirst(t *testing.T) {
	a := paired(t, 0, 8)
	a.write(0, filled(1))
	b := a.copy()
	c := b.copy()
	a.b = nil
	b.write(8, filled(2))
	b.b = nil
	c.tells()
	c.write(0, zeros())
}

func TestP16_4_NilInEveryCall(t *testing.T) {
	var b *buffer.Buffer
	for range 2 {
		for _, block := range append(far(0, 1, 63), rise(0, 64)...) {
			for _, v := range []api.Value{zeros(), filled(1)} {
				if e := b.Write(block, v); e != api.ErrHandle {
					t.Errorf("Write(%d) = %d", block, e)
				}
			}
			if v, written, e := b.Read(block); v != zeros() || written || e != api.ErrHandle {
				t.Errorf("Read(%d) = %v, %v, %d", block, v, written, e)
			}
		}
		if l := b.Images(); len(l) != 0 {
			t.Errorf("Images = %v", l)
		}
		if f := b.Form(); len(f) != 0 {
			t.Errorf("Form = %v", f)
		}
		if n := b.Len(); n != 0 {
			t.Errorf("Len = %d", n)
		}
		if b.Copy() != nil {
			t.Error("Copy is not nil")
		}
	}
	// What New answers beside an error is such a buffer.
	b, e := buffer.New(nil)
	is(t, e, api.ErrForm)
	is(t, b.Write(0, filled(1)), api.ErrHandle)
}

func TestP16_5_OneWriteChangesNoOtherBlock(t *testing.T) {
	form := []int{0, 1, 2, 8, 9, 16, 24, 30, 31, 32, 33, 40, 48, 60, 62, 63}
	for filledUp := range 3 {
		for i, block := range form {
			p := paired(t, form...)
			for j, other := range form {
				// None of the others has a value, or each second one, or all.
				if filledUp == 2 || filledUp == 1 && j%2 == 0 {
					p.write(other, filled(byte(100+j)))
				}
			}
			for _, v := range []api.Value{filled(byte(i)), filled(byte(i + 1)), zeros(), {7: byte(i)}} {
				p.write(block, v)
				reads(t, p.b, block, v)
			}
		}
	}
}

func TestP16_5_ReadTellsTheLastWrite(t *testing.T) {
	c := chance(165)
	for range 50 {
		form := c.form()
		b := of(t, form...)
		var last [64]api.Value
		var count [64]int
		for range 300 {
			block := form[c.below(len(form))]
			last[block], count[block] = c.value(), count[block]+1
			is(t, b.Write(block, last[block]), api.OK)
			for _, other := range form {
				if count[other] == 0 {
					lacks(t, b, other)
				} else {
					reads(t, b, other, last[other])
				}
			}
		}
	}
}

func TestP16_6_ImagesMakeOneThatTellsTheSame(t *testing.T) {
	c := chance(166)
	for range 200 {
		p := paired(t, c.form()...)
		tells(t, again(t, p.b), p.m)
		for range 25 {
			block := p.m.form[c.below(len(p.m.form))]
			p.write(block, c.value())
			if n, rows := p.b.Len(), len(p.b.Images()); n != rows || n > len(p.m.form) || n < 1 {
				t.Fatalf("Len = %d, and %d rows, of %d blocks", n, rows, len(p.m.form))
			}
			twin := again(t, p.b)
			tells(t, twin, p.m)
			// Written over one that has some of them, they make the same too, if that one has no others.
			for _, i := range p.b.Images() {
				is(t, twin.Write(i.Block, i.Value), api.OK)
			}
			tells(t, twin, p.m)
			is(t, twin.Write(block, filled(88)), api.OK)
			p.tells()
		}
	}
}

func TestP16_6_AtMostAsManyRowsAsBlocks(t *testing.T) {
	for n := 1; n <= 16; n++ {
		p := paired(t, rise(64-n, n)...)
		for round := range 3 {
			for i := range n {
				p.write(63-i, filled(byte(round*n+i)))
				if want := min(round*n+i+1, n); p.b.Len() != want {
					t.Fatalf("Len = %d of %d blocks, want %d", p.b.Len(), n, want)
				}
			}
		}
	}
}

// step does one of eleven calls with both: nine writes, a copy that takes the place of the first, or one beside it that is written into.
func (p *pair) step(call int) {
	p.t.Helper()
	values := []api.Value{zeros(), filled(1), filled(2)}
	switch call {
	case 9:
		p.b, p.m = p.b.Copy(), p.m.copy()
	case 10:
		twin := p.b.Copy()
		twin.Write(1, filled(9))
		twin.Write(4, filled(9))
	default:
		// 2 stands between the two blocks of the form.
		block := []int{1, 4, 2}[call/3]
		v := values[call%3]
		if e, want := p.b.Write(block, v), p.m.write(block, v); e != want {
			p.t.Fatalf("Write(%d) = %d, want %d", block, e, want)
		}
	}
}

func TestP16_1_To_16_6_AllShortRuns(t *testing.T) {
	runs := 1
	for length := range 5 {
		for n := range runs {
			p := paired(t, 1, 4)
			for range length {
				p.step(n % 11)
				n /= 11
			}
			p.tells()
			tells(t, again(t, p.b), p.m)
		}
		runs *= 11
	}
}

func TestP16_1_To_16_6_RunsWithCopies(t *testing.T) {
	c := chance(16)
	for range 100 {
		form := c.form()
		pairs := []*pair{paired(t, form...), paired(t, c.form()...), paired(t, c.form()...)}
		for range 60 {
			i := c.below(len(pairs))
			p := pairs[i]
			block := p.m.form[c.below(len(p.m.form))]
			if c.below(4) == 0 {
				block = c.below(68) - 2
			}
			p.write(block, c.value())
			if j := c.below(len(pairs)); c.below(6) == 0 && j != i {
				pairs[j] = p.copy()
			}
			for _, other := range pairs {
				other.tells()
				spoilAnswers(other.b)
			}
		}
	}
}

func TestP16_5_And_16_6_LongRuns(t *testing.T) {
	c := chance(1605)
	form := []int{0, 1, 5, 9, 10, 14, 20, 21, 30, 31, 40, 50, 58, 61, 62, 63}
	b := of(t, form...)
	var last [64]api.Value
	var written [64]bool
	for n := range 20000 {
		block := c.below(64)
		v := c.value()
		want := api.OK
		if !slices.Contains(form, block) {
			want = api.ErrOutside
		} else {
			last[block], written[block] = v, true
		}
		is(t, b.Write(block, v), want)
		spoilAnswers(b)
		var images []api.Image
		for _, block := range form {
			if written[block] {
				images = append(images, api.Image{Block: block, Value: last[block]})
			}
		}
		has(t, b, form, images...)
		for _, i := range images {
			reads(t, b, i.Block, i.Value)
		}
		if n%100 == 0 {
			b = b.Copy()
			has(t, again(t, b), form, images...)
		}
	}
}

func TestP16_3_LongChainsOfCopies(t *testing.T) {
	c := chance(1603)
	chain := []*pair{paired(t, c.form()...)}
	for range 150 {
		p := chain[len(chain)-1].copy()
		p.write(p.m.form[c.below(len(p.m.form))], c.value())
		chain = append(chain, p)
		early := chain[c.below(len(chain))]
		early.write(early.m.form[c.below(len(early.m.form))], c.value())
		for _, other := range chain {
			other.tells()
		}
	}
}

func TestR2_RefusedCallsChangeNothing(t *testing.T) {
	p := paired(t, 3, 6, 9)
	for _, block := range []int{6, 3, 9, 6} {
		outside(t, p.b, 2, 4, 5, 7, 8, 10, -1, 64, math.MinInt, math.MaxInt)
		p.tells()
		p.write(block, filled(byte(block)))
		if b, e := buffer.New([]int{9, 6, 3}); b != nil || e != api.ErrForm {
			t.Errorf("New([9 6 3]) = %v, %d", b, e)
		}
		p.tells()
	}
	outside(t, p.b, 2, 4, 5, 7, 8, 10, -1, 64, math.MinInt, math.MaxInt)
	p.tells()
}

func TestR2_OrderOfErrors(t *testing.T) {
	// A nil buffer has no form: that it is nil comes ahead of a block that stands in none.
	var none *buffer.Buffer
	for _, block := range []int{0, 1, 63, 64, -1} {
		is(t, none.Write(block, filled(1)), api.ErrHandle)
		_, _, e := none.Read(block)
		is(t, e, api.ErrHandle)
	}
	// A list that is none for more than one reason.
	for _, form := range [][]int{append(rise(-1, 17), 64, 64), {64, 63}, {-1, -1}, {5, -2, 70}} {
		_, e := buffer.New(form)
		is(t, e, api.ErrForm)
	}
}

func TestR3_TheFormThatIsHandedIn(t *testing.T) {
	for _, form := range [][]int{{0}, {1, 4}, rise(0, 16), rise(48, 16)} {
		given := roomy(form, 777)
		b := of(t, given...)
		same, e := buffer.New(given)
		is(t, e, api.OK)
		for i, block := range form {
			is(t, b.Write(block, filled(byte(i))), api.OK)
			is(t, same.Write(block, filled(byte(i))), api.OK)
		}
		spoilAnswers(same)
		spoilAnswers(same.Copy())
		if !keeps(given, form, 777) {
			t.Fatalf("New has changed its form: %v", given[:cap(given)])
		}
		// From now on it is the caller's: what it was is what the buffer has.
		m := &model{form: form}
		for i, block := range form {
			m.write(block, filled(byte(i)))
		}
		spoil(given, 33)
		tells(t, same, m)
		tells(t, same.Copy(), m)
	}
	for _, no := range [][]int{{}, {2, 1}, {64}, rise(0, 17)} {
		given := roomy(no, 777)
		_, e := buffer.New(given)
		is(t, e, api.ErrForm)
		if !keeps(given, no, 777) {
			t.Fatalf("New has changed a list that is no form: %v", given[:cap(given)])
		}
	}
}

func TestR3_TwoBuffersOfOneList(t *testing.T) {
	given := roomy([]int{2, 5}, 8)
	a, _ := buffer.New(given)
	given = append(given, 7)
	b, _ := buffer.New(given)
	given[0] = 1
	c, _ := buffer.New(given)
	has(t, a, []int{2, 5})
	has(t, b, []int{2, 5, 7})
	has(t, c, []int{1, 5, 7})
	outside(t, a, 1, 7, 8)
	outside(t, b, 1, 8)
	outside(t, c, 2, 8)
}

func TestR3_TheValueThatIsHandedIn(t *testing.T) {
	b := of(t, 1, 4)
	v := filled(5)
	is(t, b.Write(1, v), api.OK)
	v[0] = 6
	is(t, b.Write(4, v), api.OK)
	v[31] = 7
	reads(t, b, 1, filled(5))
	if got, _, _ := b.Read(4); got[0] != 6 || got[31] != 5 {
		t.Errorf("Read(4) = %v", got)
	}
	got, _, _ := b.Read(1)
	got[3] = 99
	reads(t, b, 1, filled(5))
}

func TestR3_WhatIsHandedOut(t *testing.T) {
	p := paired(t, 1, 4, 7)
	for _, block := range []int{7, 1, 4, 7} {
		spoilAnswers(p.b)
		p.tells()
		twin := p.copy()
		spoilAnswers(twin.b)
		p.tells()
		twin.tells()
		p.write(block, filled(byte(block)))
		twin.tells()
	}
	spoilAnswers(p.b)
	p.tells()
}

func TestR3_AnswersShareNothing(t *testing.T) {
	p := paired(t, 1, 4, 7)
	p.write(4, filled(1))
	p.write(1, filled(2))
	f, g, l, k := p.b.Form(), p.b.Form(), p.b.Images(), p.b.Images()
	want := p.b.Images()
	spoil(f, -99)
	spoil(l, api.Image{Block: -99})
	if !slices.Equal(g, []int{1, 4, 7}) || !slices.Equal(k, want) {
		t.Errorf("what one call has told changes what another one has told: %v, %v", g, k)
	}
	// What was told stays as it was told, whatever is written behind it.
	p.write(7, filled(3))
	p.write(4, zeros())
	p.write(1, filled(4))
	if !slices.Equal(g, []int{1, 4, 7}) || !slices.Equal(k, want) {
		t.Errorf("a write changes what was told ahead of it: %v, %v", g, k)
	}
	// Room behind what is told is no other answer's, and not the buffer's.
	f, g = append(p.b.Form(), 50), append(p.b.Form(), 60)
	l, k = append(p.b.Images(), api.Image{Block: 50}), append(p.b.Images(), api.Image{Block: 60})
	if f[3] != 50 || g[3] != 60 || l[3].Block != 50 || k[3].Block != 60 {
		t.Errorf("two answers have one room behind them: %v, %v, %v, %v", f, g, l, k)
	}
	p.tells()
}

func TestR4_NilAndEmptyAreOne(t *testing.T) {
	for _, form := range [][]int{nil, {}, make([]int, 0, 5)} {
		b, e := buffer.New(form)
		if b != nil || e != api.ErrForm {
			t.Errorf("New(%#v) = %v, %d", form, b, e)
		}
	}
	if l := of(t, 3).Images(); len(l) != 0 {
		t.Errorf("Images = %v", l)
	}
}

func TestR5_TheSameRunTwice(t *testing.T) {
	run := func() (list []api.Image, errs []api.Errno) {
		c := chance(55)
		b := of(t, c.form()...)
		for range 400 {
			block := c.below(64)
			errs = append(errs, b.Write(block, c.value()))
			v, _, e := b.Read(c.below(64))
			list = append(append(list, api.Image{Block: b.Len(), Value: v}), b.Images()...)
			errs = append(errs, e)
		}
		return list, errs
	}
	listA, errsA := run()
	listB, errsB := run()
	if !slices.Equal(listA, listB) || !slices.Equal(errsA, errsB) {
		t.Error("the same run answers something else")
	}
}

func TestR6_AskingChangesNothing(t *testing.T) {
	p := paired(t, 3, 7, 9)
	for _, block := range []int{9, 3, 7} {
		for range 3 {
			p.b.Read(3)
			p.b.Read(4)
			p.b.Images()
			p.b.Form()
			p.b.Len()
			p.b.Copy().Write(7, filled(9))
			p.tells()
		}
		p.write(block, filled(byte(block)))
	}
}

func TestExample1(t *testing.T) {
	u, v, w := filled(1), filled(2), filled(3)
	b := of(t, 1, 4)
	if n := b.Len(); n != 0 {
		t.Errorf("Len = %d", n)
	}
	lacks(t, b, 1)
	if x, written, e := b.Read(2); x != zeros() || written || e != api.ErrOutside {
		t.Errorf("Read(2) = %v, %v, %d", x, written, e)
	}
	is(t, b.Write(2, v), api.ErrOutside)
	is(t, b.Write(4, v), api.OK)
	is(t, b.Write(1, w), api.OK)
	is(t, b.Write(4, u), api.OK)
	has(t, b, []int{1, 4}, api.Image{Block: 1, Value: w}, api.Image{Block: 4, Value: u})
	reads(t, b, 4, u)
}

func TestExample2(t *testing.T) {
	b := of(t, 1, 4)
	is(t, b.Write(1, zeros()), api.OK)
	if n := b.Len(); n != 1 {
		t.Errorf("Len = %d", n)
	}
	reads(t, b, 1, zeros())
}

func TestExample3(t *testing.T) {
	for _, form := range [][]int{{}, {2, 1}, {64}} {
		if b, e := buffer.New(form); b != nil || e != api.ErrForm {
			t.Errorf("New(%v) = %v, %d", form, b, e)
		}
	}
}
