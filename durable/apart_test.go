package durable_test

import (
	"fmt"
	"slices"
	"testing"

	"wicket/api"
	"wicket/durable"
)

// part is one list of an answer, or of what is handed in: what stands in it, its room to spare too, and what writes all over it.
type part struct {
	tells  func() string
	spoils func()
}

// partOf tells a list's part, which is written over with something else; lists within its elements have parts of their own.
func partOf[T any](l []T, other T, without func(T) T) part {
	return part{
		tells: func() string {
			var own []T
			for _, x := range l[:cap(l)] {
				own = append(own, without(x))
			}
			return fmt.Sprint(len(l), own)
		},
		spoils: func() {
			all := l[:cap(l)]
			for i := range all {
				all[i] = other
			}
			_ = append(l, other, other, other)
		},
	}
}

// numbers and values tell parts which have no lists within.
func numbers(l []int) part {
	return partOf(l, 5555, func(n int) int { return n })
}
func values(l []api.Value) part {
	return partOf(l, filled(55), func(v api.Value) api.Value { return v })
}

// standing tells what stands in all parts.
func standing(l []part) []string {
	var s []string
	for _, p := range l {
		s = append(s, p.tells())
	}
	return s
}

// apart holds that no two parts share any room: each is written over and grown in its turn, and none of the others has changed.
func apart(t *testing.T, l []part) {
	t.Helper()
	for i, p := range l {
		want := standing(l)
		p.spoils()
		now := standing(l)
		now[i] = want[i]
		must(t, slices.Equal(now, want), "a part that is written over changes another one")
	}
}

// spoil writes over all parts.
func spoil(l []part) {
	for _, p := range l {
		p.spoils()
	}
}

// spacious tells a list with the same elements and room to spare, in which there is something too.
func spacious[T any](l []T, spare T) []T {
	return append(append(make([]T, 0, len(l)+3), l...), spare, spare)[:len(l)]
}

// question is one that may be asked again.
type question struct {
	of    api.Config
	rows  []api.Row
	homes []api.Value
}

// twin tells the same question in new memory, with room to spare.
func (q question) twin() question {
	rows := spacious(q.rows, api.Row{Kind: 77})
	for i, r := range rows {
		rows[i].Set = spacious(r.Set, 77)
	}
	return question{q.of, rows, spacious(q.homes, c)}
}

// parts tells all lists of a question.
func (q question) parts() []part {
	l := []part{partOf(q.rows, api.Row{Kind: api.RowRead, Block: -7}, func(r api.Row) api.Row { r.Set = nil; return r }), values(q.homes)}
	for _, r := range q.rows {
		l = append(l, numbers(r.Set))
	}
	return l
}

// answer is what all calls say.
type answer struct {
	store   []api.Value
	places  []int
	maps    [][]api.Value
	finding durable.Finding
	first   int
	errs    [4]api.Errno
}

// asked asks all calls; what is handed in is spoilt ahead of the loop over Steps, if asked for.
func (q question) asked(spoilt bool) answer {
	var x answer
	x.store, x.errs[0] = durable.Store(q.of, q.rows)
	x.finding, x.errs[1] = durable.Judge(q.of, q.rows)
	x.first, x.errs[2] = durable.Homes(q.of, q.rows, q.homes)
	steps, no := durable.Steps(q.of, q.rows)
	x.errs[3] = no
	if spoilt {
		spoil(q.parts())
	}
	if steps != nil {
		for k, m := range steps {
			x.places, x.maps = append(x.places, k), append(x.maps, m)
		}
	}
	return x
}

// parts tells all lists of an answer.
func (x answer) parts() []part {
	l := []part{values(x.store)}
	for _, m := range x.maps {
		l = append(l, values(m))
	}
	return l
}

// says tells an answer as a text; a list without elements is one, nil or not.
func (x answer) says() string {
	return fmt.Sprint(x)
}

// questions tells many, of which some have errors for an answer.
func questions(ch *chance) []question {
	var l []question
	for n := range 60 {
		w := world{of: config(3, 8, 1, 4, 4), crashes: 40, values: ch.few, twice: n%4 == 0, rising: n%3 == 0}
		q := question{of: w.of, rows: ch.rows(w, ch.below(90)), homes: make([]api.Value, 3)}
		if n%2 == 0 && mayNot(w.of, q.rows) == api.OK {
			q.rows = righted(w.of, q.rows)
			q.homes = storeOf(w.of, q.rows)
			q.homes[n%3] = ch.few()
		}
		switch n % 9 {
		case 5:
			q.homes = q.homes[:2]
		case 6:
			q.of.Blocks = 2
		}
		l = append(l, q)
	}
	return append(l, question{of: two, homes: make([]api.Value, 2)}, question{}, question{of: two, rows: []api.Row{row(api.RowRead, 0, 1)}}, question{of: wide, rows: rowsOf(acked(1, write(63, a)), acked(2)), homes: make([]api.Value, 64)})
}

// TestAskedAgain: R5, what is told hangs on what was handed in alone, whatever else has been asked, and whatever has become of answers.
func TestAskedAgain(t *testing.T) {
	ch := chance(71)
	l := questions(&ch)
	var first []string
	errs := map[api.Errno]int{}
	for _, q := range l {
		x := q.asked(false)
		first = append(first, x.says())
		for _, no := range x.errs {
			errs[no]++
		}
	}
	must(t, errs[api.OK] > 50 && errs[api.ErrRows] > 10 && errs[api.ErrInput] > 3 && errs[api.ErrConfig] > 3, "%v", errs)
	for range 3 {
		for _, i := range ch.shuffled(len(l)) {
			x := l[i].asked(false)
			must(t, x.says() == first[i], "asked again: %s, want %s", x.says(), first[i])
			must(t, l[i].twin().asked(false).says() == first[i], "room to spare makes another answer")
			spoil(x.parts())
		}
	}
}

// TestAskedAtOnce: R5, many may ask at once, and many may go through one sequence.
func TestAskedAtOnce(t *testing.T) {
	ch := chance(72)
	l := questions(&ch)
	said := make(chan string)
	var want, all []string
	for i, q := range l {
		want = append(want, fmt.Sprint(i, " ", q.asked(false).says()))
		go func() { said <- fmt.Sprint(i, " ", q.asked(false).says()) }()
		steps, _ := durable.Steps(q.of, q.rows)
		if steps == nil {
			continue
		}
		for range 2 {
			want = append(want, fmt.Sprint(i, " maps ", mapsOf(q.of, q.rows)))
			go func() {
				var maps [][]api.Value
				for _, m := range steps {
					maps = append(maps, m)
				}
				said <- fmt.Sprint(i, " maps ", maps)
			}()
		}
	}
	for range want {
		all = append(all, <-said)
	}
	slices.Sort(all)
	slices.Sort(want)
	must(t, slices.Equal(all, want), "asked at once, something else is told")
}

// TestApart: R3, what is handed in is not changed and not kept; what is handed out is new memory, and no two lists share any.
func TestApart(t *testing.T) {
	ch := chance(73)
	maps := 0
	for _, q := range questions(&ch) {
		twin := q.twin()
		before := standing(twin.parts())
		x := twin.asked(false)
		must(t, slices.Equal(standing(twin.parts()), before), "what was handed in has been changed")
		says, stands := x.says(), standing(x.parts())
		spoil(twin.parts())
		must(t, x.says() == says && slices.Equal(standing(x.parts()), stands), "what was handed in is part of what was answered")
		other := q.asked(false)
		must(t, other.says() == says, "asked again: %s, want %s", other.says(), says)
		must(t, q.twin().asked(true).says() == says, "what was handed in is changed ahead of the loop, and something else is told")
		in := standing(q.parts())
		apart(t, x.parts())
		must(t, other.says() == says, "an answer that is written over changes another one")
		must(t, slices.Equal(standing(q.parts()), in), "an answer that is written over changes what was handed in")
		must(t, q.asked(false).says() == says, "an answer that is written over changes a later one")
		maps += len(x.maps)
	}
	must(t, maps > 100, "%d maps were told", maps)
}

// TestMapsWrittenOver: R3, each map of a sequence may be written over and grown as it comes, without changing those that come.
func TestMapsWrittenOver(t *testing.T) {
	ch := chance(74)
	for _, q := range questions(&ch) {
		steps, no := durable.Steps(q.of, q.rows)
		if no != api.OK {
			continue
		}
		want := mapsOf(q.of, q.rows)
		for range 2 {
			k := 0
			for n, m := range steps {
				must(t, n == k && slices.Equal(m, want[k]), "the map %d is %v, want %v", n, m, want[k])
				values(m).spoils()
				k++
			}
			must(t, k == len(want), "%d maps, want %d", k, len(want))
		}
	}
}

// TestNothingInSpareRoom: R3, room to spare of an answer is new memory too: nothing stands in it.
func TestNothingInSpareRoom(t *testing.T) {
	ch := chance(75)
	for _, q := range questions(&ch) {
		x := q.asked(false)
		for _, l := range append(slices.Clone(x.maps), x.store) {
			for _, v := range l[len(l):cap(l)] {
				must(t, v == zero, "%v stands in room to spare", v)
			}
		}
	}
}
