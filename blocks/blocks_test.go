package blocks_test

import (
	"math"
	"slices"
	"testing"

	"wicket/api"
	"wicket/blocks"
)

// spare is how many numbers lie behind a list that roomy makes.
const spare = 100

// filler is the number in that room, which nobody may touch.
const filler = 777

// roomy tells the same list with spare room behind it.
func roomy(list []int) []int {
	l := append(slices.Clone(list), slices.Repeat([]int{filler}, spare)...)
	return l[:len(list)]
}

// keeps tells whether a list made by roomy still is as it was made, spare room too.
func keeps(l, was []int) bool {
	return slices.Equal(l, was) && slices.Equal(l[len(l):len(l)+spare], slices.Repeat([]int{filler}, spare))
}

// scrawl writes over a list, spare room too.
func scrawl(l []int) {
	l = l[:cap(l)]
	for i := range l {
		l[i] = -99
	}
}

// rise tells so many numbers, each one above the one ahead of it.
func rise(from, n int) []int {
	var l []int
	for i := range n {
		l = append(l, from+i)
	}
	return l
}

// fall tells the same numbers, the last one first.
func fall(list []int) []int {
	l := slices.Clone(list)
	slices.Reverse(l)
	return l
}

// lists tells all lists of these numbers, of no element up to so many.
func lists(of []int, longest int) [][]int {
	all := [][]int{nil}
	for from := 0; longest > 0; longest-- {
		until := len(all)
		for _, l := range all[from:until] {
			for _, b := range of {
				all = append(all, append(slices.Clone(l), b))
			}
		}
		from = until
	}
	return all
}

// stands tells whether a number stands in a list, by a loop.
func stands(list []int, b int) bool {
	for _, x := range list {
		if x == b {
			return true
		}
	}
	return false
}

// plain tells which of the numbers from -70 to 69 stand in a list, rising: the chapter's words, without a sort.
func plain(list []int) []int {
	var l []int
	for b := -70; b < 70; b++ {
		if stands(list, b) {
			l = append(l, b)
		}
	}
	return l
}

// formed is what P5.1 says, of sets whose numbers are near 0.
func formed(set []int, n, most int) ([]int, api.Errno) {
	if n < 1 || n > 64 || most < 1 || most > 16 || most > n {
		return nil, api.ErrInput
	}
	if len(set) == 0 {
		return nil, api.ErrEmpty
	}
	form := plain(set)
	if form[0] < 0 || form[len(form)-1] >= n {
		return nil, api.ErrBlock
	}
	if len(form) > most {
		return nil, api.ErrMany
	}
	return form, api.OK
}

// form tells Form where there is no error.
func form(t *testing.T, set []int, n, most int) []int {
	t.Helper()
	f, e := blocks.Form(set, n, most)
	if e != api.OK {
		t.Fatalf("Form(%v, %d, %d): %d", set, n, most, e)
	}
	return f
}

// row is a call of Form, and what it is to answer.
type row struct {
	set     []int
	n, most int
	want    []int
	e       api.Errno
}

// tryForm holds Form against rows.
func tryForm(t *testing.T, rows []row) {
	t.Helper()
	for _, c := range rows {
		if f, e := blocks.Form(c.set, c.n, c.most); !slices.Equal(f, c.want) || e != c.e {
			t.Errorf("Form(%v, %d, %d) = %v, %d, want %v, %d", c.set, c.n, c.most, f, e, c.want, c.e)
		}
	}
}

func TestP5_1Form(t *testing.T) {
	tryForm(t, []row{
		{[]int{0}, 1, 1, []int{0}, api.OK},
		{[]int{0, 0, 0}, 1, 1, []int{0}, api.OK},
		{[]int{2, 0}, 3, 2, []int{0, 2}, api.OK},
		{[]int{0, 2}, 3, 3, []int{0, 2}, api.OK},
		{[]int{63}, 64, 1, []int{63}, api.OK},
		{[]int{63, 0, 63}, 64, 16, []int{0, 63}, api.OK},
		{[]int{10, 9, 2, 1}, 11, 4, []int{1, 2, 9, 10}, api.OK},
		{rise(48, 16), 64, 16, rise(48, 16), api.OK},
		{fall(rise(0, 16)), 16, 16, rise(0, 16), api.OK},
	})
}

func TestP5_1FormOfNoStore(t *testing.T) {
	var rows []row
	for _, set := range [][]int{nil, {}, {0}, {-1}, {64}, rise(0, 17)} {
		for _, n := range []int{0, -1, -64, 65, 66, 128, 1 << 32, 1<<32 + 4, math.MaxInt, math.MinInt} {
			for _, most := range []int{0, 1, 16, 17, -1} {
				rows = append(rows, row{set, n, most, nil, api.ErrInput})
			}
		}
		for _, most := range []int{0, -1, -16, 17, 18, 64, 1<<32 + 1, math.MaxInt, math.MinInt} {
			for _, n := range []int{1, 4, 16, 17, 20, 64} {
				rows = append(rows, row{set, n, most, nil, api.ErrInput})
			}
		}
		for n := 1; n < 16; n++ {
			rows = append(rows, row{set, n, n + 1, nil, api.ErrInput}, row{set, n, 16, nil, api.ErrInput})
		}
	}
	tryForm(t, rows)
}

func TestP5_1FormOfEveryStore(t *testing.T) {
	for n := -2; n <= 67; n++ {
		for most := -2; most <= 19; most++ {
			for _, set := range [][]int{nil, {n - 1}, {n}, {0}, {-1}, {0, n - 1}, rise(0, most), rise(0, most+1), rise(n-most, most)} {
				want, e := formed(set, n, most)
				tryForm(t, []row{{set, n, most, want, e}})
			}
		}
	}
}

func TestP5_1FormOfNothing(t *testing.T) {
	for _, set := range [][]int{nil, {}, make([]int, 0, 9), []int{1, 2}[:0]} {
		tryForm(t, []row{{set, 1, 1, nil, api.ErrEmpty}, {set, 64, 16, nil, api.ErrEmpty}, {set, 4, 4, nil, api.ErrEmpty}})
	}
}

func TestP5_1FormOfNoBlock(t *testing.T) {
	for _, n := range []int{1, 4, 16, 63, 64} {
		for _, b := range []int{-1, -2, -n, -64, n, n + 1, 64, 65, 128, 1 << 32, 1<<32 + 1, -1 << 32, math.MaxInt, math.MaxInt - 1, math.MinInt, math.MinInt + 1} {
			for _, set := range [][]int{{b}, {0, b}, {b, 0}, {0, b, 0}, {b, b, b}, {n - 1, 0, n - 1, b}} {
				tryForm(t, []row{{set, n, 1, nil, api.ErrBlock}})
			}
		}
		tryForm(t, []row{{[]int{0}, n, 1, []int{0}, api.OK}, {[]int{n - 1}, n, 1, []int{n - 1}, api.OK}})
	}
}

func TestP5_1FormOfTooMany(t *testing.T) {
	for most := 1; most <= 16; most++ {
		enough := rise(64-most, most)
		doubled := append(fall(enough), enough...)
		more := append([]int{3}, doubled...)
		tryForm(t, []row{
			{enough, 64, most, enough, api.OK},
			{fall(enough), 64, most, enough, api.OK},
			{doubled, 64, most, enough, api.OK},
			{more, 64, most, nil, api.ErrMany},
			{append(slices.Clone(doubled), 3), 64, most, nil, api.ErrMany},
			{rise(0, 64), 64, most, nil, api.ErrMany},
		})
	}
}

func TestP5_1OrderOfErrors(t *testing.T) {
	tryForm(t, []row{
		{nil, 0, 1, nil, api.ErrInput},
		{nil, 65, 1, nil, api.ErrInput},
		{nil, 4, 5, nil, api.ErrInput},
		{[]int{-1}, 4, 0, nil, api.ErrInput},
		{[]int{99}, 4, 17, nil, api.ErrInput},
		{rise(0, 6), 4, 5, nil, api.ErrInput},
		{[]int{0, 1}, 4, 0, nil, api.ErrInput},
		{[]int{-1, 0, 1}, 4, 1, nil, api.ErrBlock},
		{[]int{0, 1, -1}, 4, 1, nil, api.ErrBlock},
		{[]int{0, 1, 4}, 4, 1, nil, api.ErrBlock},
		{append(rise(0, 17), 64), 64, 16, nil, api.ErrBlock},
		{append(rise(0, 64), math.MinInt), 64, 16, nil, api.ErrBlock},
	})
}

func TestP5_1FormOfAllShortSets(t *testing.T) {
	for _, set := range lists([]int{-1, 0, 1, 2, 3, 4}, 4) {
		for n := 0; n <= 4; n++ {
			for most := 0; most <= n+1; most++ {
				want, e := formed(set, n, most)
				tryForm(t, []row{{set, n, most, want, e}})
			}
		}
	}
}

func TestP5_1FormOfManyDoubles(t *testing.T) {
	const n = 200000
	set := make([]int, n)
	for i := range set {
		set[i] = 63 - i%16
	}
	tryForm(t, []row{{set, 64, 16, rise(48, 16), api.OK}})
	set[n-1] = 0
	if f, e := blocks.Form(set, 64, 16); len(f) != 0 || e != api.ErrMany {
		t.Errorf("Form of a long set of 17 = %v, %d", f, e)
	}
	set[n-1] = 64
	if f, e := blocks.Form(set, 64, 16); len(f) != 0 || e != api.ErrBlock {
		t.Errorf("Form of a long set whose last one is no block = %v, %d", f, e)
	}
}

func TestP5_2Is(t *testing.T) {
	for _, c := range []struct {
		list []int
		want bool
	}{
		{nil, false},
		{[]int{}, false},
		{make([]int, 0, 9), false},
		{[]int{0}, true},
		{[]int{63}, true},
		{[]int{64}, false},
		{[]int{-1}, false},
		{[]int{math.MinInt}, false},
		{[]int{math.MaxInt}, false},
		{[]int{1 << 32}, false},
		{[]int{0, 63}, true},
		{[]int{0, 64}, false},
		{[]int{-1, 63}, false},
		{[]int{math.MinInt, 0}, false},
		{[]int{0, math.MaxInt}, false},
		{[]int{5, 5}, false},
		{[]int{0, 0}, false},
		{[]int{5, 5, 6}, false},
		{[]int{4, 5, 5}, false},
		{[]int{4, 5, 6, 5}, false},
		{[]int{4, 5, 6, 3}, false},
		{[]int{6, 4, 5}, false},
		{[]int{0, 2, 1, 3}, false},
		{rise(0, 15), true},
		{rise(0, 16), true},
		{rise(48, 16), true},
		{rise(49, 16), false},
		{rise(-1, 16), false},
		{rise(0, 17), false},
		{rise(47, 17), false},
		{rise(0, 18), false},
		{rise(0, 64), false},
		{append(rise(0, 15), 63), true},
		{append(rise(0, 15), 64), false},
		{append(rise(0, 15), 14), false},
		{append(rise(0, 15), 0), false},
		{append([]int{1}, rise(1, 15)...), false},
		{fall(rise(0, 16)), false},
		{slices.Repeat([]int{0}, 17), false},
	} {
		if got := blocks.Is(c.list); got != c.want {
			t.Errorf("Is(%v) = %v", c.list, got)
		}
	}
}

func TestP5_2IsOfAllShortLists(t *testing.T) {
	for _, l := range lists([]int{-1, 0, 1, 2, 62, 63, 64}, 4) {
		// Of a form, and of nothing else, the numbers that stand in it, rising, are itself.
		want := len(l) > 0 && slices.Equal(plain(l), l) && !stands(l, -1) && !stands(l, 64)
		if got := blocks.Is(l); got != want {
			t.Errorf("Is(%v) = %v", l, got)
		}
	}
}

func TestP5_2IsOfAFallAnywhere(t *testing.T) {
	for n := 2; n <= 16; n++ {
		for i := 1; i < n; i++ {
			l := rise(20, n)
			for _, b := range []int{l[i-1], l[i-1] - 1, 0, -1, math.MinInt} {
				l[i] = b
				if blocks.Is(l) {
					t.Errorf("Is(%v)", l)
				}
			}
		}
	}
}

// anyLists are lists of any numbers, most of them no forms.
var anyLists = [][]int{
	nil, {}, {0}, {1}, {-1}, {64}, {5, 5}, {5, 1, 5}, {2, 5, 1}, {3, 2, 1, 0}, {-4, 9}, {9, 9, -4, -4},
	{math.MinInt, math.MaxInt}, {math.MaxInt, 0, math.MinInt, math.MaxInt}, {-1, -2, -3}, {-3, 0, 3}, {64, 65, -64},
	{1 << 32, 1<<32 + 1}, {0, 1, 2, 3, 4, 5, 6, 7, 8, 9, 10, 11, 12, 13, 14, 15, 16, 17, 18, 19},
}

// anyNumbers are numbers that stand in some of them, and some that stand in none.
var anyNumbers = []int{-64, -5, -4, -3, -2, -1, 0, 1, 2, 3, 4, 5, 6, 9, 16, 19, 20, 64, 65, 1 << 32, 1<<32 + 1, 1<<32 + 2, math.MaxInt, math.MaxInt - 1, math.MinInt, math.MinInt + 1}

func TestP5_3Has(t *testing.T) {
	for _, c := range []struct {
		list []int
		b    int
		want bool
	}{
		{nil, 0, false},
		{[]int{}, 0, false},
		{make([]int, 0, 9), 0, false},
		{[]int{0}, 0, true},
		{[]int{0}, 1, false},
		{[]int{1, 3, 5}, 1, true},
		{[]int{1, 3, 5}, 3, true},
		{[]int{1, 3, 5}, 5, true},
		{[]int{1, 3, 5}, 4, false},
		{[]int{5, 3, 1}, 1, true},
		{[]int{5, 3, 1}, 5, true},
		{[]int{9, 0, 9, 4}, 0, true},
		{[]int{7, 7}, 7, true},
		{[]int{-3, -1}, -3, true},
		{[]int{-3, -1}, 3, false},
		{[]int{2, -1}, -1, true},
		{[]int{math.MaxInt, math.MinInt}, math.MinInt, true},
		{[]int{math.MaxInt, math.MinInt}, math.MaxInt, true},
		{[]int{math.MaxInt, math.MinInt}, 0, false},
	} {
		if got := blocks.Has(c.list, c.b); got != c.want {
			t.Errorf("Has(%v, %d) = %v", c.list, c.b, got)
		}
	}
	for _, l := range anyLists {
		for _, b := range anyNumbers {
			if got := blocks.Has(l, b); got != stands(l, b) {
				t.Errorf("Has(%v, %d) = %v", l, b, got)
			}
		}
	}
}

func TestP5_3Next(t *testing.T) {
	for _, l := range anyLists {
		for i, want := range l {
			if b, ok := blocks.Next(l, i); b != want || !ok {
				t.Errorf("Next(%v, %d) = %d, %v", l, i, b, ok)
			}
		}
		// The spare room has numbers too, which are none of the list.
		for _, l := range [][]int{l, roomy(l)} {
			for _, done := range []int{-1, -2, -len(l) - 1, len(l), len(l) + 1, 1 << 32, -1 << 32, math.MaxInt, math.MinInt} {
				if b, ok := blocks.Next(l, done); b != 0 || ok {
					t.Errorf("Next(%v, %d) = %d, %v", l, done, b, ok)
				}
			}
		}
	}
}

func TestP5_3Both(t *testing.T) {
	for _, c := range []struct{ a, b, want []int }{
		{nil, nil, nil},
		{[]int{}, nil, nil},
		{[]int{1}, nil, nil},
		{[]int{1}, []int{1}, []int{1}},
		{[]int{1}, []int{2}, nil},
		{[]int{1, 2, 3}, []int{2, 3, 4}, []int{2, 3}},
		{[]int{3, 2, 1}, []int{4, 3, 2}, []int{2, 3}},
		{[]int{1, 3, 5}, []int{0, 2, 4, 6}, nil},
		{[]int{1, 2}, []int{7, 8, 9}, nil},
		{[]int{0, 9}, []int{9, 0}, []int{0, 9}},
		{[]int{4, 4, 4}, []int{4}, []int{4}},
		{[]int{4}, []int{4, 4, 4}, []int{4}},
		{[]int{4, 4}, []int{4, 4}, []int{4}},
		{[]int{4, 1, 4}, []int{1, 4, 1}, []int{1, 4}},
		{[]int{-1, -2}, []int{-2, -1}, []int{-2, -1}},
		{[]int{0, -5, 5}, []int{5, -5}, []int{-5, 5}},
		{[]int{10, 9, 2}, []int{2, 10, 9}, []int{2, 9, 10}},
		{[]int{math.MaxInt, math.MinInt, 0}, []int{math.MinInt, math.MaxInt}, []int{math.MinInt, math.MaxInt}},
		{rise(0, 40), rise(20, 40), rise(20, 20)},
		{fall(rise(-30, 40)), rise(-20, 40), rise(-20, 30)},
	} {
		if got := blocks.Both(c.a, c.b); !slices.Equal(got, c.want) {
			t.Errorf("Both(%v, %v) = %v, want %v", c.a, c.b, got, c.want)
		}
		if got := blocks.Both(c.b, c.a); !slices.Equal(got, c.want) {
			t.Errorf("Both(%v, %v) = %v, want %v", c.b, c.a, got, c.want)
		}
	}
}

func TestP5_3BothOfAllShortLists(t *testing.T) {
	all := lists([]int{-1, 0, 5, 64}, 3)
	for _, a := range all {
		for _, b := range all {
			var want []int
			for _, x := range plain(a) {
				if stands(b, x) {
					want = append(want, x)
				}
			}
			if got := blocks.Both(a, b); !slices.Equal(got, want) {
				t.Errorf("Both(%v, %v) = %v, want %v", a, b, got, want)
			}
		}
	}
}

func TestP5_3BothOfLongLists(t *testing.T) {
	const n = 200000
	var a, b, want []int
	for i := range n {
		a = append(a, 2*(n-i))
		b = append(b, 3*i, 3*i)
		if 6*(i+1) <= 2*n {
			want = append(want, 6*(i+1))
		}
	}
	if got := blocks.Both(a, b); !slices.Equal(got, want) {
		t.Errorf("Both of long lists: %d numbers, want %d", len(got), len(want))
	}
}

func TestP5_4FormOfAForm(t *testing.T) {
	for _, set := range lists([]int{0, 1, 2, 3}, 5)[1:] {
		f := form(t, set, 4, 4)
		if again := form(t, f, 4, 4); !slices.Equal(again, f) {
			t.Errorf("Form(%v) = %v", f, again)
		}
		if again := form(t, f, 64, len(f)); !slices.Equal(again, f) {
			t.Errorf("Form(%v) = %v in a greater store", f, again)
		}
	}
	for n := 1; n <= 16; n++ {
		for _, f := range [][]int{rise(0, n), rise(64-n, n)} {
			if got := form(t, f, 64, n); !slices.Equal(got, f) {
				t.Errorf("Form(%v) = %v", f, got)
			}
		}
	}
}

func TestP5_4OrderAndDoublesDoNotMatter(t *testing.T) {
	for _, a := range lists([]int{0, 1, 2, 3}, 4) {
		for most := 1; most <= 4; most++ {
			f, e := blocks.Form(a, 4, most)
			for _, b := range [][]int{fall(a), append(slices.Clone(a), a...), append(fall(a), a...), slices.Sorted(slices.Values(a)), plain(a)} {
				if g, d := blocks.Form(b, 4, most); !slices.Equal(g, f) || d != e {
					t.Errorf("Form(%v, 4, %d) = %v, %d, but Form(%v, 4, %d) = %v, %d", a, most, f, e, b, most, g, d)
				}
			}
		}
	}
	for turn := range 16 {
		set := append(rise(turn, 16-turn), rise(0, turn)...)
		if f := form(t, append(set, set...), 16, 16); !slices.Equal(f, rise(0, 16)) {
			t.Errorf("Form(%v twice) = %v", set, f)
		}
	}
}

func TestP5_5FormIsAndHas(t *testing.T) {
	sets := lists([]int{0, 1, 2, 3, 63}, 4)
	for n := 1; n <= 64; n++ {
		sets = append(sets, rise(0, n), fall(rise(64-n, n)), slices.Repeat([]int{n - 1}, 20))
	}
	told := 0
	for _, set := range sets {
		for _, n := range []int{1, 4, 16, 64} {
			for _, most := range []int{1, 2, 3, 4, 15, 16} {
				f, e := blocks.Form(set, n, most)
				if e != api.OK {
					continue
				}
				told++
				if !blocks.Is(f) || len(f) > most {
					t.Errorf("Form(%v, %d, %d) = %v, which is no form of so few", set, n, most, f)
				}
				for b := -2; b < 67; b++ {
					if blocks.Has(f, b) != blocks.Has(set, b) {
						t.Errorf("Form(%v, %d, %d) = %v: Has of %d", set, n, most, f, b)
					}
				}
			}
		}
	}
	if told < 1000 {
		t.Errorf("%d sets had a form", told)
	}
}

func TestP5_6HasOfBoth(t *testing.T) {
	all := append(slices.Clone(anyLists), lists([]int{-1, 0, 5}, 3)...)
	for _, a := range all {
		for _, b := range all {
			both := blocks.Both(a, b)
			for _, x := range anyNumbers {
				if blocks.Has(both, x) != (blocks.Has(a, x) && blocks.Has(b, x)) {
					t.Errorf("Both(%v, %v) = %v: Has of %d", a, b, both, x)
				}
			}
			for i := 1; i < len(both); i++ {
				if both[i] <= both[i-1] {
					t.Errorf("Both(%v, %v) = %v does not rise", a, b, both)
				}
			}
		}
	}
}

func TestR3ListsHandedInStay(t *testing.T) {
	for _, was := range append(slices.Clone(anyLists), []int{3, 1, 3, 0}, []int{0, 1, 3}, []int{2, 2, 2}) {
		for _, other := range [][]int{nil, {1}, {5, 1, 5}, {0, 1, 3}, {math.MinInt, -1}} {
			l, m := roomy(was), roomy(other)
			blocks.Form(l, 64, 16)
			blocks.Form(l, 4, 1)
			blocks.Form(l, 0, 0)
			blocks.Is(l)
			blocks.Has(l, 1)
			blocks.Next(l, 1)
			blocks.Both(l, m)
			blocks.Both(m, l)
			blocks.Both(l, l)
			if !keeps(l, was) || !keeps(m, other) {
				t.Errorf("%v and %v have become %v and %v, or their room has changed", was, other, l, m)
			}
		}
	}
}

func TestR3ListsHandedOutAreNew(t *testing.T) {
	for _, was := range [][]int{{0, 1, 3}, {3, 1, 3, 0}, {2}, {2, 2}, rise(0, 16), fall(rise(0, 16))} {
		l := roomy(was)
		want := plain(was)
		f, g, both, again := form(t, l, 64, 16), form(t, l, 64, 16), blocks.Both(l, l), blocks.Both(l, l)
		scrawl(f)
		_ = append(f, -98)
		scrawl(both)
		_ = append(both, -98)
		if !keeps(l, was) {
			t.Errorf("%v has become %v by writing over answers", was, l)
		}
		if !slices.Equal(g, want) || !slices.Equal(again, want) {
			t.Errorf("of %v: %v and %v, by writing over other answers", was, g, again)
		}
		scrawl(l)
		if !slices.Equal(g, want) || !slices.Equal(again, want) {
			t.Errorf("of %v: %v and %v, by writing over the list", was, g, again)
		}
	}
}

func TestR3AnswersWithoutElementsAreNew(t *testing.T) {
	for _, other := range [][]int{nil, {9}} {
		l, m := roomy([]int{1, 2}), roomy(other)
		both := blocks.Both(l, m)
		if len(both) != 0 {
			t.Fatalf("Both = %v", both)
		}
		scrawl(both)
		_ = append(both, -98)
		if !keeps(l, []int{1, 2}) || !keeps(m, other) {
			t.Errorf("a list or its room has changed: %v, %v", l, m)
		}
	}
}

func TestR4NilIsEmpty(t *testing.T) {
	empty := make([]int, 0, 4)
	for _, l := range [][]int{nil, {}, empty} {
		_, e := blocks.Form(l, 4, 3)
		_, d := blocks.Form(l, 4, 5)
		b, ok := blocks.Next(l, 0)
		if e != api.ErrEmpty || d != api.ErrInput || blocks.Is(l) || blocks.Has(l, 0) || b != 0 || ok {
			t.Errorf("of an empty list: %d, %d, %v, %v, %d, %v", e, d, blocks.Is(l), blocks.Has(l, 0), b, ok)
		}
		if len(blocks.Both(l, []int{0})) != 0 || len(blocks.Both([]int{0}, l)) != 0 || len(blocks.Both(l, empty)) != 0 {
			t.Error("Both of an empty list")
		}
	}
}

func TestR5CapacityDoesNotMatter(t *testing.T) {
	for _, l := range [][]int{{3, 1, 3, 0}, {0, 1, 3}, {-1}, rise(0, 17)} {
		tight, room := slices.Clip(slices.Clone(l)), roomy(l)
		f, e := blocks.Form(tight, 64, 16)
		g, d := blocks.Form(room, 64, 16)
		if !slices.Equal(f, g) || e != d || blocks.Is(tight) != blocks.Is(room) || blocks.Has(room, filler) {
			t.Errorf("of %v: %v, %d, with room %v, %d", l, f, e, g, d)
		}
		if !slices.Equal(blocks.Both(tight, []int{filler, 3}), blocks.Both(room, []int{filler, 3})) {
			t.Errorf("Both of %v hangs on its room", l)
		}
	}
}

func TestExample1(t *testing.T) {
	tryForm(t, []row{
		{[]int{3, 1, 3, 0}, 4, 3, []int{0, 1, 3}, api.OK},
		{[]int{3, 1, 3, 0}, 4, 2, nil, api.ErrMany},
		{[]int{3, 1, 3, 0}, 3, 3, nil, api.ErrBlock},
		{[]int{}, 4, 3, nil, api.ErrEmpty},
		{[]int{7, 7, 7, -1}, 4, 1, nil, api.ErrBlock},
		{[]int{}, 4, 5, nil, api.ErrInput},
		{[]int{0}, 65, 1, nil, api.ErrInput},
		{[]int{0}, 20, 17, nil, api.ErrInput},
		{[]int{0}, 4, 0, nil, api.ErrInput},
	})
}

func TestExample2(t *testing.T) {
	if !blocks.Is([]int{0, 1, 3}) {
		t.Error("Is([0 1 3]) is false")
	}
	for _, l := range [][]int{{}, {1, 1}, {1, 0}, {64}, {-1, 0}, rise(0, 17)} {
		if blocks.Is(l) {
			t.Errorf("Is(%v) is true", l)
		}
	}
}

func TestExample3(t *testing.T) {
	l := []int{0, 1, 3}
	if b, ok := blocks.Next(l, 2); b != 3 || !ok {
		t.Errorf("Next(%v, 2) = %d, %v", l, b, ok)
	}
	for _, done := range []int{3, -1} {
		if b, ok := blocks.Next(l, done); b != 0 || ok {
			t.Errorf("Next(%v, %d) = %d, %v", l, done, b, ok)
		}
	}
	if both := blocks.Both([]int{5, 1, 5}, []int{2, 5, 1}); !slices.Equal(both, []int{1, 5}) {
		t.Errorf("Both([5 1 5], [2 5 1]) = %v", both)
	}
	if both := blocks.Both([]int{}, []int{1}); len(both) != 0 {
		t.Errorf("Both([], [1]) = %v", both)
	}
}
