package serial_test

import (
	"fmt"
	"slices"
	"testing"

	"wicket/api"
	"wicket/serial"
)

// part is one list of an answer, or of what is handed in: what stands in it, its room to spare too, and what writes all over it.
type part struct {
	tells  func() string
	spoils func()
}

// partOf tells a list's part, which is written over with something else; lists within its elements have parts of their own.
func partOf[T any](l []T, other T, without func(T) T) part {
	return part{
		tells: func() string {
			var own []T
			for _, x := range l[:cap(l)] {
				own = append(own, without(x))
			}
			return fmt.Sprint(len(l), own)
		},
		spoils: func() {
			all := l[:cap(l)]
			for i := range all {
				all[i] = other
			}
			_ = append(l, other, other, other)
		},
	}
}

// numbers and values tell parts which have no lists within.
func numbers(l []int) part {
	return partOf(l, 5555, func(n int) int { return n })
}
func values(l []api.Value) part {
	return partOf(l, filled(55), func(v api.Value) api.Value { return v })
}

// rowParts tells the parts of rows.
func rowParts(rows []api.Row) []part {
	l := []part{partOf(rows, api.Row{Kind: 5555}, func(r api.Row) api.Row { r.Set = nil; return r })}
	for _, r := range rows {
		l = append(l, numbers(r.Set))
	}
	return l
}

// opParts tells the parts of lists of operations.
func opParts(txs [][]api.Op) []part {
	l := []part{partOf(txs, []api.Op{write(0, c)}, func([]api.Op) []api.Op { return nil })}
	for _, ops := range txs {
		l = append(l, partOf(ops, write(1, filled(55)), func(op api.Op) api.Op { op.Set = nil; return op }))
		for _, op := range ops {
			l = append(l, numbers(op.Set))
		}
	}
	return l
}

// toldParts tells the parts of what Alone has told.
func toldParts(told [][]api.Value) []part {
	l := []part{partOf(told, []api.Value{c}, func([]api.Value) []api.Value { return nil })}
	for _, reads := range told {
		l = append(l, values(reads))
	}
	return l
}

// standing tells what stands in all parts.
func standing(l []part) []string {
	var s []string
	for _, p := range l {
		s = append(s, p.tells())
	}
	return s
}

// apart holds that no two parts share any room: each is written over and grown in its turn, and none of the others has changed.
func apart(t *testing.T, l []part) {
	t.Helper()
	for i, p := range l {
		want := standing(l)
		p.spoils()
		now := standing(l)
		now[i] = want[i]
		must(t, slices.Equal(now, want), "a part that is written over changes another one")
	}
}

// spoil writes over all parts.
func spoil(l []part) {
	for _, p := range l {
		p.spoils()
	}
}

// spacious tells a list with the same elements and room to spare, in which there is something too.
func spacious[T any](l []T, spare T) []T {
	return append(append(make([]T, 0, len(l)+3), l...), spare, spare)[:len(l)]
}

// spaciousRows tells the same rows, each list in new memory, with room to spare.
func spaciousRows(rows []api.Row) []api.Row {
	twin := spacious(rows, api.Row{Kind: 77})
	for i, r := range twin {
		twin[i].Set = spacious(r.Set, 77)
	}
	return twin
}

// spaciousOps tells the same lists of operations, each in new memory, with room to spare.
func spaciousOps(txs [][]api.Op) [][]api.Op {
	twin := spacious(txs, []api.Op{write(7, c)})
	for i, ops := range twin {
		twin[i] = spacious(ops, write(7, c))
		for k, op := range ops {
			twin[i][k].Set = spacious(op.Set, 77)
		}
	}
	return twin
}

// question is one that may be asked again.
type question struct {
	rows   []api.Row
	order  []int
	txs    [][]api.Op
	blocks int
}

// answer is what all calls say.
type answer struct {
	order         []int
	judge, by     serial.Finding
	mapped, byMap []api.Value
	told          [][]api.Value
	end           []api.Value
	errs          [5]api.Errno
}

// asked asks all calls.
func (q question) asked() answer {
	var x answer
	x.order, x.errs[0] = serial.Order(q.rows)
	x.judge, x.errs[1] = serial.Judge(q.rows, q.blocks)
	x.mapped, x.errs[2] = serial.Map(q.rows, q.blocks)
	x.by, x.byMap, x.errs[3] = serial.By(q.rows, q.blocks, q.order)
	x.told, x.end, x.errs[4] = serial.Alone(q.blocks, q.txs)
	return x
}

// parts tells all lists of an answer.
func (x answer) parts() []part {
	return append(toldParts(x.told), numbers(x.order), values(x.mapped), values(x.byMap), values(x.end))
}

// says tells an answer as a text; a list without elements is one, nil or not.
func (x answer) says() string {
	return fmt.Sprint(x)
}

// twin tells the same question in new memory, with room to spare.
func (q question) twin() question {
	return question{spaciousRows(q.rows), spacious(q.order, 77), spaciousOps(q.txs), q.blocks}
}

// parts tells all lists of a question.
func (q question) parts() []part {
	return slices.Concat(rowParts(q.rows), []part{numbers(q.order)}, opParts(q.txs))
}

// questions tells many, of which some have errors for an answer.
func questions(ch *chance) []question {
	var l []question
	w := world{clients: 4, blocks: 3, crashes: 40, values: ch.few}
	for n := range 60 {
		w.twice = n%4 == 0
		q := question{rows: ch.rows(w, ch.below(90)), blocks: 3 - n%5/4}
		looked := look(q.rows)
		q.order = ch.some(looked.txs)
		if n%3 == 0 {
			q.rows = righted(q.rows, q.order)
		}
		for _, tx := range q.order {
			ops, _ := looked.opsOf(tx)
			for i := range ops {
				ops[i].Set = ch.some(3)
			}
			q.txs = append(q.txs, ops)
		}
		switch n % 7 {
		case 5:
			q.order = append(q.order, -1)
		case 6:
			q.txs = append(q.txs, []api.Op{{Kind: api.OpAbort}})
		}
		l = append(l, q)
	}
	return append(l, question{blocks: 1}, question{blocks: 0}, question{rows: []api.Row{row(api.RowRead, 0, 1)}, blocks: 2}, question{txs: make([][]api.Op, 3), blocks: 64})
}

// TestAskedAgain: R5, what is told hangs on what was handed in alone, whatever else has been asked, and whatever has become of answers.
func TestAskedAgain(t *testing.T) {
	ch := chance(71)
	l := questions(&ch)
	var first []string
	for _, q := range l {
		first = append(first, q.asked().says())
	}
	for range 3 {
		for _, i := range ch.shuffled(len(l)) {
			x := l[i].asked()
			must(t, x.says() == first[i], "asked again: %s, want %s", x.says(), first[i])
			must(t, l[i].twin().asked().says() == first[i], "room to spare makes another answer")
			spoil(x.parts())
		}
	}
}

// TestAskedAtOnce: R5, many may ask at once.
func TestAskedAtOnce(t *testing.T) {
	ch := chance(72)
	l := questions(&ch)
	said := make(chan string, len(l))
	for i, q := range l {
		go func() { said <- fmt.Sprint(i, " ", q.asked().says()) }()
	}
	var all, want []string
	for i, q := range l {
		all, want = append(all, <-said), append(want, fmt.Sprint(i, " ", q.asked().says()))
	}
	slices.Sort(all)
	slices.Sort(want)
	must(t, slices.Equal(all, want), "asked at once, something else is told")
}

// TestApart: R3, what is handed in is not changed and not kept; what is handed out is new memory, and no two lists share any.
func TestApart(t *testing.T) {
	ch := chance(73)
	lists := 0
	for _, q := range questions(&ch) {
		twin := q.twin()
		before := standing(twin.parts())
		x := twin.asked()
		must(t, slices.Equal(standing(twin.parts()), before), "what was handed in has been changed")
		says, stands := x.says(), standing(x.parts())
		spoil(twin.parts())
		must(t, x.says() == says && slices.Equal(standing(x.parts()), stands), "what was handed in is part of what was answered")
		other := q.asked()
		must(t, other.says() == says, "asked again: %s, want %s", other.says(), says)
		in := standing(q.parts())
		apart(t, x.parts())
		must(t, other.says() == says, "an answer that is written over changes another one")
		must(t, slices.Equal(standing(q.parts()), in), "an answer that is written over changes what was handed in")
		must(t, q.asked().says() == says, "an answer that is written over changes a later one")
		lists += len(x.told)
	}
	must(t, lists > 50, "%d lists were told", lists)
}

// TestNothingInSpareRoom: R3, room to spare of an answer is new memory too: nothing stands in it.
func TestNothingInSpareRoom(t *testing.T) {
	ch := chance(74)
	for _, q := range questions(&ch) {
		x := q.asked()
		for _, l := range append(slices.Clone(x.told), x.mapped, x.byMap, x.end) {
			for _, v := range l[len(l):cap(l)] {
				must(t, v == zero, "%v stands in room to spare", v)
			}
		}
		for _, n := range x.order[len(x.order):cap(x.order)] {
			must(t, n == 0, "%d stands in room to spare", n)
		}
	}
}
