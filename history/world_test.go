package history_test

import (
	"fmt"
	"math"
	"slices"
	"testing"

	"wicket/api"
	"wicket/engine"
	"wicket/history"
)

// must ends a test in which something does not hold.
func must(t *testing.T, holds bool, what string, args ...any) {
	if !holds {
		t.Helper() // not ahead of it, as it costs more than most of what is asked
		t.Fatalf(what, args...)
	}
}

// chance tells numbers that look like chance and are the same in each run.
type chance uint64

func (c *chance) next() uint64 {
	*c ^= *c << 13
	*c ^= *c >> 7
	*c ^= *c << 17
	return uint64(*c)
}

// below tells one of 0 to n - 1.
func (c *chance) below(n int) int {
	return int(c.next() % uint64(n))
}

// oneIn tells true once in n times.
func (c *chance) oneIn(n int) bool {
	return c.below(n) == 0
}

// value tells one that hardly comes twice; now and then zeros.
func (c *chance) value() api.Value {
	var v api.Value
	if !c.oneIn(12) {
		for i := range v {
			v[i] = byte(c.next() >> 20)
		}
	}
	return v
}

// filled tells a value whose bytes all are one.
func filled(n byte) api.Value {
	var v api.Value
	for i := range v {
		v[i] = n
	}
	return v
}

// config tells a configuration of its parts, in their order.
func config(blocks, logCap, maxRes, high, clients int) api.Config {
	return api.Config{Blocks: blocks, LogCap: logCap, MaxRes: maxRes, High: high, Clients: clients}
}

// small tells configurations of small stores and logs, in which much waits.
func small() []api.Config {
	return []api.Config{
		config(1, 2, 1, 1, 1), config(1, 2, 1, 2, 3), config(2, 3, 2, 3, 2), config(2, 4, 2, 2, 3), config(3, 4, 2, 4, 4),
		config(4, 5, 3, 3, 2), config(4, 7, 3, 6, 5), config(3, 9, 3, 1, 8), config(6, 8, 5, 8, 3),
	}
}

// large tells configurations with the most of what there may be.
func large() []api.Config {
	return []api.Config{config(64, 64, 16, 64, 8), config(64, 17, 16, 9, 8), config(16, 64, 16, 40, 3), config(64, 2, 1, 1, 8)}
}

// named runs a test of each configuration.
func named(t *testing.T, l []api.Config, test func(t *testing.T, c api.Config, ch *chance)) {
	for i, c := range l {
		t.Run(fmt.Sprint(c), func(t *testing.T) {
			t.Parallel()
			ch := chance(i*1000003 + 77)
			test(t, c, &ch)
		})
	}
}

func begin(set ...int) api.Op { return api.Op{Kind: api.OpBegin, Set: set} }
func read(b int) api.Op       { return api.Op{Kind: api.OpRead, Block: b} }
func commit() api.Op          { return api.Op{Kind: api.OpCommit} }
func abort() api.Op           { return api.Op{Kind: api.OpAbort} }

// write tells the operation that fills a block with a byte.
func write(b int, n byte) api.Op {
	return api.Op{Kind: api.OpWrite, Block: b, Value: filled(n)}
}

// set tells a declared set; now and then one that is rejected.
func (c *chance) set(of api.Config) []int {
	switch c.below(14) {
	case 0:
		return nil
	case 1:
		return []int{c.below(of.Blocks), of.Blocks, c.below(of.Blocks)}
	case 2:
		return []int{-1, 0}
	case 3: // too many, if there are that many
		var l []int
		for b := range of.Blocks {
			l = append(l, b)
		}
		return l
	}
	var different []int
	for range 1 + c.below(of.MaxRes) {
		different = append(different, c.below(of.Blocks))
	}
	for range c.below(3) {
		different = append(different, different[c.below(len(different))])
	}
	return different
}

// near tells a block of a set; now and then any other number.
func (c *chance) near(of api.Config, set []int) int {
	switch {
	case c.oneIn(9) || len(set) == 0:
		return c.below(of.Blocks+3) - 1
	case c.oneIn(40):
		return []int{math.MinInt, math.MaxInt}[c.below(2)]
	}
	return set[c.below(len(set))]
}

// program tells n operations: transactions that commit, abort or are left, and operations that are refused.
func (c *chance) program(of api.Config, n int) []api.Op {
	var l []api.Op
	for len(l) < n {
		set := c.set(of)
		l = append(l, begin(set...))
		for range c.below(6) {
			switch c.below(9) {
			case 0:
				l = append(l, begin(c.set(of)...))
			case 1, 2, 3:
				l = append(l, read(c.near(of, set)))
			default:
				l = append(l, api.Op{Kind: api.OpWrite, Block: c.near(of, set), Value: c.value()})
			}
		}
		switch c.below(8) {
		case 0:
			l = append(l, abort())
		case 1: // what comes next is met within this one
		default:
			l = append(l, commit())
		}
		if c.oneIn(6) {
			l = append(l, api.Op{Kind: 2 + c.below(4), Block: c.near(of, set), Set: c.some(3), Value: c.value()})
		}
	}
	return l[:n]
}

// programs tells one for each client, of up to so many operations.
func (c *chance) programs(of api.Config, most int) [][]api.Op {
	l := make([][]api.Op, of.Clients)
	for n := range l {
		l[n] = c.program(of, c.below(most+1))
	}
	return l
}

// some tells some of the numbers below n, doubles and others among them.
func (c *chance) some(n int) []int {
	var l []int
	for range c.below(2*n + 1) {
		l = append(l, c.below(n+2)-1)
	}
	return l
}

// keep tells numbers for a crash behind which so many writes wait: none, all, or some, in any order, with doubles and others.
func (c *chance) keep(waiting int) []int {
	switch c.below(4) {
	case 0:
		return nil
	case 1:
		var l []int
		for i := range waiting {
			l = append(l, waiting-1-i)
		}
		return append(l, math.MinInt, math.MaxInt)
	}
	return c.some(waiting)
}

// picks tells n picks for a run: of actors that are enabled, of any and of other numbers, with a Keep now and then, and once in so many times a crash (0: never), of whatever number.
func (c *chance) picks(t *testing.T, of api.Config, programs [][]api.Op, n, crashes int) []api.Pick {
	t.Helper()
	e, no := engine.New(of, programs)
	must(t, no == api.OK, "engine.New(%v) answers %d", of, no)
	var l []api.Pick
	for range n {
		p := api.Pick{Actor: c.below(e.Actors()+2) - 1, Keep: c.some(c.below(2))}
		for tries := 0; tries < 5 && !e.Enabled(p.Actor) && !c.oneIn(4); tries++ {
			p.Actor = c.below(e.Actors())
		}
		if crashes > 0 && c.oneIn(crashes) {
			actor := []int{math.MinInt, math.MaxInt, c.below(20) - 5}[c.below(3)]
			p = api.Pick{Crash: true, Actor: actor, Keep: c.keep(len(e.Disk().Waiting()))}
		}
		e.Pick(p)
		l = append(l, p)
	}
	return l
}

// run tells the history of a run.
func run(t *testing.T, c api.Config, programs [][]api.Op, picks []api.Pick) history.History {
	t.Helper()
	h, no := history.Run(c, programs, picks)
	must(t, no == api.OK, "Run(%v) answers %d", c, no)
	return h
}

// any tells the history of a run of chance, with so many picks.
func (c *chance) any(t *testing.T, of api.Config, n, crashes int) history.History {
	t.Helper()
	programs := c.programs(of, min(10+n/of.Clients, api.MaxProgram))
	return run(t, of, programs, c.picks(t, of, programs, n, crashes))
}

// sameOp tells whether two operations are alike.
func sameOp(a, b api.Op) bool {
	return a.Kind == b.Kind && a.Block == b.Block && a.Value == b.Value && slices.Equal(a.Set, b.Set)
}

// samePick tells whether two picks are alike.
func samePick(a, b api.Pick) bool {
	return a.Actor == b.Actor && a.Crash == b.Crash && slices.Equal(a.Keep, b.Keep)
}

// sameRow tells whether two rows are alike, field by field.
func sameRow(a, b api.Row) bool {
	return a.Kind == b.Kind && a.Life == b.Life && a.Actor == b.Actor && a.Ticket == b.Ticket && a.Block == b.Block && a.Value == b.Value &&
		a.Position == b.Position && a.Count == b.Count && a.Err == b.Err && slices.Equal(a.Set, b.Set)
}

// sameRows tells whether two lists of rows are alike.
func sameRows(a, b []api.Row) bool {
	return slices.EqualFunc(a, b, sameRow)
}

// samePrograms tells whether two lists of programs are alike.
func samePrograms(a, b [][]api.Op) bool {
	return slices.EqualFunc(a, b, func(p, q []api.Op) bool { return slices.EqualFunc(p, q, sameOp) })
}

// sameHistory tells whether two histories are alike; lists without elements are, nil or not.
func sameHistory(a, b history.History) bool {
	return a.Config == b.Config && samePrograms(a.Programs, b.Programs) && slices.EqualFunc(a.Picks, b.Picks, samePick) &&
		sameRows(a.Rows, b.Rows) && slices.Equal(a.At, b.At)
}

// sameTx tells whether two transactions are alike, field by field.
func sameTx(a, b history.Tx) bool {
	return a.Client == b.Client && a.Life == b.Life && a.Ticket == b.Ticket && slices.Equal(a.Set, b.Set) &&
		slices.Equal(a.Reads, b.Reads) && slices.Equal(a.Writes, b.Writes) && a.Begun == b.Begun && a.Asked == b.Asked &&
		a.Commit == b.Commit && a.Position == b.Position && a.Done == b.Done && a.Fate == b.Fate
}

// spacious tells a list with the same elements and room to spare, in which there is something too.
func spacious[T any](l []T, spare T) []T {
	return append(append(make([]T, 0, len(l)+3), l...), spare, spare)[:len(l)]
}

// spaciousHistory tells the same history, each list of it in new memory, with room to spare, in which there is something too.
func spaciousHistory(h history.History) history.History {
	twin := history.History{Config: h.Config, At: spacious(h.At, 77)}
	for _, program := range h.Programs {
		var l []api.Op
		for _, op := range program {
			op.Set = spacious(op.Set, 77)
			l = append(l, op)
		}
		twin.Programs = append(twin.Programs, spacious(l, write(7, 7)))
	}
	twin.Programs = spacious(twin.Programs, []api.Op{abort()})
	for _, p := range h.Picks {
		p.Keep = spacious(p.Keep, 77)
		twin.Picks = append(twin.Picks, p)
	}
	twin.Picks = spacious(twin.Picks, api.Pick{Actor: 77, Keep: []int{77}})
	for _, r := range h.Rows {
		r.Set = spacious(r.Set, 77)
		twin.Rows = append(twin.Rows, r)
	}
	twin.Rows = spacious(twin.Rows, api.Row{Kind: 77})
	return twin
}

// part is one list of an answer, or of what is handed in: what stands in it, its room to spare too, and what writes all over it.
type part struct {
	tells  func() string
	spoils func()
}

// partOf tells a list's part, which is written over with something else; lists within its elements have parts of their own.
func partOf[T any](l []T, other T, without func(T) T) part {
	return part{
		tells: func() string {
			var own []T
			for _, x := range l[:cap(l)] {
				own = append(own, without(x))
			}
			return fmt.Sprint(len(l), own)
		},
		spoils: func() {
			all := l[:cap(l)]
			for i := range all {
				all[i] = other
			}
			_ = append(l, other, other, other)
		},
	}
}

// numbers tells a part of numbers, which have no lists within.
func numbers(l []int) part {
	return partOf(l, 5555, func(n int) int { return n })
}

// programParts tells the parts of programs.
func programParts(programs [][]api.Op) []part {
	parts := []part{partOf(programs, []api.Op{abort()}, func([]api.Op) []api.Op { return nil })}
	for _, program := range programs {
		parts = append(parts, partOf(program, write(55, 55), func(op api.Op) api.Op { op.Set = nil; return op }))
		for _, op := range program {
			parts = append(parts, numbers(op.Set))
		}
	}
	return parts
}

// pickParts tells the parts of picks.
func pickParts(picks []api.Pick) []part {
	parts := []part{partOf(picks, api.Pick{Actor: 5555}, func(p api.Pick) api.Pick { p.Keep = nil; return p })}
	for _, p := range picks {
		parts = append(parts, numbers(p.Keep))
	}
	return parts
}

// rowParts tells the parts of rows.
func rowParts(rows []api.Row) []part {
	parts := []part{partOf(rows, api.Row{Kind: 5555}, func(r api.Row) api.Row { r.Set = nil; return r })}
	for _, r := range rows {
		parts = append(parts, numbers(r.Set))
	}
	return parts
}

// historyParts tells the parts of a history.
func historyParts(h history.History) []part {
	return slices.Concat(programParts(h.Programs), pickParts(h.Picks), rowParts(h.Rows), []part{numbers(h.At)})
}

// txParts tells the parts of transactions.
func txParts(txs []history.Tx) []part {
	parts := []part{partOf(txs, history.Tx{Client: 5555}, func(x history.Tx) history.Tx { x.Set, x.Reads, x.Writes = nil, nil, nil; return x })}
	for _, x := range txs {
		parts = append(parts, numbers(x.Set),
			partOf(x.Reads, history.Read{Row: 5555}, func(r history.Read) history.Read { return r }),
			partOf(x.Writes, api.Image{Block: 5555}, func(i api.Image) api.Image { return i }))
	}
	return parts
}

// told tells what stands in all parts.
func told(parts []part) []string {
	var l []string
	for _, p := range parts {
		l = append(l, p.tells())
	}
	return l
}

// apart holds that no two parts share any room: each is written over and grown in its turn, and only it has changed.
func apart(t *testing.T, parts []part) {
	t.Helper()
	want := told(parts)
	for i, p := range parts {
		p.spoils()
		must(t, slices.Equal(told(parts[i+1:]), want[i+1:]), "a part that is written over changes another one")
	}
}

// untouched holds that what is handed to a call is not changed, spare room too.
func untouched(t *testing.T, parts []part, call func()) {
	t.Helper()
	want := told(parts)
	call()
	must(t, slices.Equal(told(parts), want), "what was handed in has been changed")
}

// spoil writes over all parts.
func spoil(parts []part) {
	for _, p := range parts {
		p.spoils()
	}
}
