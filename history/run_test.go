package history_test

import (
	"math"
	"slices"
	"testing"

	"wicket/api"
	"wicket/engine"
	"wicket/history"
)

// example is the configuration of chapter 22's examples, and exampleProgram the program.
func example() api.Config { return config(2, 4, 2, 4, 1) }

func exampleProgram() []api.Op {
	return []api.Op{begin(1), write(1, 7), commit()}
}

// actors tells picks of these.
func actors(l ...int) []api.Pick {
	var picks []api.Pick
	for _, n := range l {
		picks = append(picks, api.Pick{Actor: n})
	}
	return picks
}

// crash tells a crash that keeps these.
func crash(keep ...int) api.Pick {
	return api.Pick{Crash: true, Keep: keep}
}

// exampleRows are those of chapter 22's first example, all fields of them.
func exampleRows() []api.Row {
	return []api.Row{
		{Kind: api.RowBegun, Life: 1, Ticket: 1, Block: -1, Set: []int{1}},
		{Kind: api.RowEntered, Life: 1, Ticket: 1, Block: -1},
		{Kind: api.RowLocked, Life: 1, Ticket: 1, Block: 1},
		{Kind: api.RowWritten, Life: 1, Ticket: 1, Block: 1, Value: filled(7)},
		{Kind: api.RowRequested, Life: 1, Ticket: 1, Block: -1},
		{Kind: api.RowTaken, Life: 1, Actor: 1, Block: -1, Count: 1},
		{Kind: api.RowAppended, Life: 1, Actor: 1, Ticket: 1, Block: 1, Value: filled(7)},
		{Kind: api.RowAppended, Life: 1, Actor: 1, Ticket: 1, Block: -1, Position: 1, Count: 1},
		{Kind: api.RowFlushed, Life: 1, Actor: 1, Block: -1, Count: 2},
		{Kind: api.RowDone, Life: 1, Actor: 1, Ticket: 1, Block: -1, Position: 1, Count: 1},
	}
}

// runs holds what Run answers of the example's programs.
func runs(t *testing.T, picks []api.Pick, rows []api.Row, at ...int) history.History {
	t.Helper()
	h := run(t, example(), [][]api.Op{exampleProgram()}, picks)
	want := history.History{Config: example(), Programs: [][]api.Op{exampleProgram()}, Picks: picks, Rows: rows, At: at}
	must(t, sameHistory(h, want), "Run = %+v, want %+v", h, want)
	return h
}

func TestRunExampleOne(t *testing.T) {
	runs(t, actors(0, 0, 0, 0, 0, 1, 1, 1, 1, 1), exampleRows(), 0, 1, 2, 3, 4, 5, 6, 7, 8, 9)
	// Picks that answer false have no rows, and are picks nevertheless.
	picks := append(actors(-1, 0, 1, 2, 3, 0, 0, 4, 0, 0, 0, 1), api.Pick{Actor: math.MinInt, Keep: []int{3, 3}}, api.Pick{Actor: 1, Keep: []int{0}})
	runs(t, append(picks, actors(math.MaxInt, 1, 1, 0, 2, 1, 1, 1, 3)...), exampleRows(), 1, 5, 6, 8, 9, 11, 13, 15, 16, 19)
}

func TestRunExampleTwo(t *testing.T) {
	picks := slices.Concat(actors(0, 0, 0, 0, 0, 1, 1), []api.Pick{crash()}, actors(3, 0, 3, 3, 3, 0, 3))
	rows := append(exampleRows()[:7],
		api.Row{Kind: api.RowCrashed, Life: 1, Actor: -1, Block: -1, Count: 1},
		api.Row{Kind: api.RowScanned, Life: 1, Actor: 3, Block: -1},
		api.Row{Kind: api.RowFlushed, Life: 1, Actor: 3, Block: -1},
		api.Row{Kind: api.RowMarked, Life: 1, Actor: 3, Block: -1, Position: 4},
		api.Row{Kind: api.RowLives, Life: 2, Actor: 3, Block: -1, Position: 4})
	runs(t, picks, rows, 0, 1, 2, 3, 4, 5, 6, 7, 8, 10, 11, 12)
}

func TestRunExampleThree(t *testing.T) {
	picks := slices.Concat(actors(0, 0, 0, 0, 0, 1, 1, 1, 1), []api.Pick{{Crash: true, Actor: 1, Keep: []int{5, -1}}}, actors(3, 3, 3, 3, 3))
	rows := append(exampleRows()[:9],
		api.Row{Kind: api.RowCrashed, Life: 1, Actor: -1, Block: -1},
		api.Row{Kind: api.RowScanned, Life: 1, Actor: 3, Block: -1, Count: 1, Position: 2},
		api.Row{Kind: api.RowCarried, Life: 1, Actor: 3, Block: 1, Value: filled(7)},
		api.Row{Kind: api.RowFlushed, Life: 1, Actor: 3, Block: -1, Count: 1},
		api.Row{Kind: api.RowMarked, Life: 1, Actor: 3, Block: -1, Position: 6},
		api.Row{Kind: api.RowLives, Life: 2, Actor: 3, Block: -1, Position: 6})
	runs(t, picks, rows, 0, 1, 2, 3, 4, 5, 6, 7, 8, 9, 10, 11, 12, 13, 14)
}

// TestRunKept: what a crash keeps is what its Keep says, in a life and in the midst of a recovery, whatever its Actor.
func TestRunKept(t *testing.T) {
	ahead := actors(0, 0, 0, 0, 0, 1, 1, 1) // two records wait
	for _, x := range []struct {
		crashes []api.Pick
		found   int
	}{
		{[]api.Pick{crash()}, 0}, {[]api.Pick{crash(0)}, 0}, {[]api.Pick{crash(1)}, 0}, {[]api.Pick{crash(0, 1)}, 1}, {[]api.Pick{crash(1, 0)}, 1},
		{[]api.Pick{crash(7, 1, -3, 1, 0, math.MaxInt, 0, math.MinInt)}, 1}, {[]api.Pick{{Crash: true, Actor: 1, Keep: []int{0, 1}}}, 1},
		{[]api.Pick{{Crash: true, Actor: -7, Keep: []int{2, 1}}}, 0}, {[]api.Pick{{Crash: true, Actor: math.MaxInt, Keep: []int{0, 1}}, crash()}, 1},
		{[]api.Pick{crash(1), crash(0, 1)}, 0}, {[]api.Pick{crash(0, 1), {Actor: 3}, crash(), {Actor: 3}, {Actor: 3}, crash()}, 1},
	} {
		h := run(t, example(), [][]api.Op{exampleProgram()}, slices.Concat(ahead, x.crashes, actors(3)))
		last := h.Rows[len(h.Rows)-1]
		must(t, last.Kind == api.RowScanned && last.Count == x.found, "behind %+v: %+v, want %d found", x.crashes, last, x.found)
		must(t, slices.EqualFunc(h.Picks[8:8+len(x.crashes)], x.crashes, samePick), "the crashes are another's: %+v", h.Picks)
	}
}

// TestRunNothing: no picks, no operations, no programs' lists.
func TestRunNothing(t *testing.T) {
	for _, c := range slices.Concat(small(), large()) {
		for _, programs := range [][][]api.Op{make([][]api.Op, c.Clients), slices.Repeat([][]api.Op{{}}, c.Clients)} {
			h := run(t, c, programs, nil)
			must(t, sameHistory(h, history.History{Config: c, Programs: programs}), "of no picks Run = %+v", h)
			l, no := history.Txs(h.Rows)
			must(t, no == api.OK && len(l) == 0 && history.Check(h) == api.OK, "of no picks there is something")
			var all []api.Pick
			for n := -1; n <= c.Clients+4; n++ {
				all = append(all, api.Pick{Actor: n})
			}
			h = run(t, c, programs, all)
			must(t, sameHistory(h, history.History{Config: c, Programs: programs, Picks: all}), "of no operations Run = %+v", h)
		}
	}
}

// wrongConfigs are some that may not be, by one part each.
func wrongConfigs() []api.Config {
	return []api.Config{
		{}, config(0, 4, 1, 4, 1), config(65, 4, 2, 4, 1), config(-1, 4, 1, 4, 1), config(3, 1, 1, 1, 1), config(3, 65, 2, 4, 1), config(3, 4, 0, 4, 1),
		config(3, 5, 4, 4, 1), config(4, 4, 4, 4, 1), config(64, 64, 17, 4, 1), config(3, 4, 2, 0, 1), config(3, 4, 2, 5, 1), config(3, 4, 2, 4, 0),
		config(3, 4, 2, 4, 9), config(math.MaxInt, math.MaxInt, math.MaxInt, math.MaxInt, math.MaxInt), config(2, 4, 2, 4, math.MinInt),
	}
}

// wrongPrograms are some that may not be, of one client.
func wrongPrograms() [][][]api.Op {
	long := slices.Repeat([]api.Op{read(0)}, api.MaxProgram+1)
	l := [][][]api.Op{nil, {}, {nil, nil}, {{begin(0)}, {begin(0)}}, {long}, {nil, long}}
	for _, kind := range []int{0, -1, 6, 7, math.MinInt, math.MaxInt, api.OpBegin + 1<<32} {
		l = append(l, [][]api.Op{{{Kind: kind}}}, [][]api.Op{{begin(0), commit(), {Kind: kind, Set: []int{0}}}})
	}
	return l
}

// refused holds that Run, and Check of the same beside rows that may be and rows that may not, answer an error and nothing else.
func refused(t *testing.T, c api.Config, programs [][]api.Op, picks []api.Pick, want api.Errno) {
	t.Helper()
	h, no := history.Run(c, programs, picks)
	must(t, no == want && sameHistory(h, history.History{}), "Run(%v) answers %d, want %d, or a history beside it", c, no, want)
	for _, rows := range [][]api.Row{nil, exampleRows()} {
		no := history.Check(history.History{Config: c, Programs: programs, Picks: picks, Rows: rows})
		must(t, no == want, "Check answers %d, want %d", no, want)
	}
}

// TestRunRefuses: 23.1 and 23.2, each error alone, and which comes first where there are several.
func TestRunRefuses(t *testing.T) {
	good := [][]api.Op{exampleProgram()}
	many := make([]api.Pick, api.MaxPicks+1)
	for _, c := range wrongConfigs() {
		for _, programs := range [][][]api.Op{good, nil, {nil, nil}, {{{}}}} {
			refused(t, c, programs, actors(0), api.ErrConfig)
			refused(t, c, programs, many, api.ErrConfig)
		}
	}
	for _, programs := range wrongPrograms() {
		refused(t, example(), programs, actors(0), api.ErrProgram)
		refused(t, example(), programs, many, api.ErrProgram)
	}
	refused(t, example(), good, many, api.ErrInput)
	refused(t, example(), good, slices.Repeat([]api.Pick{crash(0)}, api.MaxPicks+1), api.ErrInput)
	refused(t, example(), good, make([]api.Pick, 3*api.MaxPicks), api.ErrInput)
}

// TestRunGreatest: just as many picks and operations as there may be.
func TestRunGreatest(t *testing.T) {
	program := slices.Repeat([]api.Op{{Kind: api.OpAbort, Set: []int{-4, 99}, Block: math.MinInt, Value: filled(3)}}, api.MaxProgram-3)
	programs := [][]api.Op{append(program, exampleProgram()...)}
	picks := make([]api.Pick, api.MaxPicks)
	for i := range picks {
		picks[i].Actor = 9
	}
	for i := range api.MaxProgram {
		picks[len(picks)-2*i-1].Actor = 0
	}
	h := run(t, example(), programs, picks)
	must(t, len(h.Picks) == 65536 && len(h.Rows) == 256 && len(h.Programs[0]) == 256, "%d rows of %d picks", len(h.Rows), len(h.Picks))
	for i, row := range h.Rows[:253] {
		must(t, sameRow(row, api.Row{Kind: api.RowRefused, Life: 1, Block: -1, Err: api.ErrState}) && h.At[i] == 65536-511+2*i, "the row %+v at %d", row, h.At[i])
	}
	last := h.Rows[255]
	must(t, h.At[255] == 65535 && last.Kind == api.RowLocked, "the last row %+v at %d", last, h.At[255])
	must(t, history.Check(h) == api.OK, "Check answers %d", history.Check(h))
	back, no := history.Decode(history.Encode(h))
	must(t, no == api.OK && sameHistory(back, h), "there and back: %d", no)
	h.At[255]--
	must(t, history.Check(h) == api.ErrRows, "Check of another place answers %d", history.Check(h))
}

// stepped holds a history against an engine that makes the same picks: what has answered true has its row, and nothing else.
func stepped(t *testing.T, h history.History, c api.Config, programs [][]api.Op, picks []api.Pick) {
	t.Helper()
	e, no := engine.New(c, programs)
	must(t, no == api.OK, "engine.New answers %d", no)
	want := history.History{Config: c, Programs: programs, Picks: picks}
	for i, p := range picks {
		row, ok := e.Pick(p)
		if ok {
			want.Rows, want.At = append(want.Rows, row), append(want.At, i)
		}
	}
	must(t, sameHistory(h, want), "Run does not answer what the engine does")
}

// TestRuns: 23.1 and P23.6, long runs with and without crashes.
func TestRuns(t *testing.T) {
	named(t, append(small(), large()...), func(t *testing.T, c api.Config, ch *chance) {
		for _, often := range []int{0, 3, 12, 60} {
			programs := ch.programs(c, 60)
			picks := ch.picks(t, c, programs, 500, often)
			h := run(t, c, programs, picks)
			stepped(t, h, c, programs, picks)
			must(t, history.Check(h) == api.OK, "Check of what Run answers: %d", history.Check(h))
			must(t, len(h.Rows) > 10 || often == 3, "%d rows", len(h.Rows))
		}
	})
}

// otherRows tells a row changed in each of its fields.
func otherRows(r api.Row) []api.Row {
	var l []api.Row
	add := func(change func(r *api.Row)) {
		twin := r
		twin.Set = slices.Clone(r.Set)
		change(&twin)
		l = append(l, twin)
	}
	for _, d := range []int{1, -1, 2, 1 << 32, math.MinInt} {
		add(func(r *api.Row) { r.Kind += d })
		add(func(r *api.Row) { r.Life += uint64(d) })
		add(func(r *api.Row) { r.Actor += d })
		add(func(r *api.Row) { r.Ticket += uint64(d) })
		add(func(r *api.Row) { r.Block += d })
		add(func(r *api.Row) { r.Position += uint64(d) })
		add(func(r *api.Row) { r.Count += d })
		add(func(r *api.Row) { r.Err += api.Errno(d) })
	}
	for _, i := range []int{0, 1, 30, 31} {
		add(func(r *api.Row) { r.Value[i]++ })
		add(func(r *api.Row) { r.Value[i] ^= 128 })
	}
	add(func(r *api.Row) { r.Set = append(r.Set, 0) })
	add(func(r *api.Row) { r.Set = append([]int{-1}, r.Set...) })
	if n := len(r.Set); n > 0 {
		add(func(r *api.Row) { r.Set = nil })
		add(func(r *api.Row) { r.Set = r.Set[:n-1] })
		add(func(r *api.Row) { r.Set[n-1]++ })
		add(func(r *api.Row) { r.Set[0]-- })
	}
	if len(r.Set) > 1 {
		add(func(r *api.Row) { slices.Reverse(r.Set) })
		add(func(r *api.Row) { r.Set = r.Set[1:] })
	}
	return l
}

// checks holds what Check answers of a history in which something was changed.
func checks(t *testing.T, h history.History, want api.Errno, what string, args ...any) {
	t.Helper()
	if no := history.Check(h); no != want {
		must(t, false, "Check answers %d, want %d: "+what, slices.Concat([]any{no, want}, args)...)
	}
}

// TestCheckRows: 23.2, each field of each row changed, a row more, a row less, two rows exchanged, and places likewise.
func TestCheckRows(t *testing.T) {
	ch := chance(4711)
	for _, c := range []api.Config{example(), config(3, 4, 2, 2, 3)} {
		h := ch.any(t, c, 90, 25)
		good := func() history.History {
			twin := h
			twin.Rows, twin.At = slices.Clone(h.Rows), slices.Clone(h.At)
			return twin
		}
		checks(t, good(), api.OK, "nothing was changed")
		for i := range h.Rows {
			for _, r := range otherRows(h.Rows[i]) {
				k := good()
				k.Rows[i] = r
				checks(t, k, api.ErrRows, "row %d is %+v instead of %+v", i, r, h.Rows[i])
			}
			k := good()
			k.Rows = slices.Delete(k.Rows, i, i+1)
			checks(t, k, api.ErrRows, "row %d is not there", i)
			k.At = slices.Delete(k.At, i, i+1)
			checks(t, k, api.ErrRows, "row %d and its place are not there", i)
			k = good()
			k.Rows = slices.Insert(k.Rows, i, k.Rows[i])
			checks(t, k, api.ErrRows, "row %d is there twice", i)
			k.At = slices.Insert(k.At, i, k.At[i])
			checks(t, k, api.ErrRows, "row %d and its place are there twice", i)
			for _, d := range []int{1, -1, 1 << 32, math.MinInt} {
				k = good()
				k.At[i] += d
				checks(t, k, api.ErrRows, "the place %d is another one by %d", i, d)
			}
			k = good()
			k.At = k.At[:i]
			checks(t, k, api.ErrRows, "there are %d places", i)
			if i > 0 && !sameRow(h.Rows[i], h.Rows[i-1]) {
				k = good()
				k.Rows[i], k.Rows[i-1] = k.Rows[i-1], k.Rows[i]
				checks(t, k, api.ErrRows, "row %d stands ahead of the one that it is behind", i)
			}
		}
		k := good()
		k.Rows = append(k.Rows, api.Row{})
		checks(t, k, api.ErrRows, "a row more")
		k.At = append(k.At, len(k.Picks))
		checks(t, k, api.ErrRows, "a row and a place more")
		k = good()
		k.At = append(k.At, 0)
		checks(t, k, api.ErrRows, "a place more")
		k = good()
		k.Rows, k.At = nil, nil
		checks(t, k, api.ErrRows, "no rows and no places")
	}
}

// TestCheckOthers: 23.2, other picks, programs and configurations beside the same rows.
func TestCheckOthers(t *testing.T) {
	picks := actors(0, 0, 9, 0, 0, 0, 1, 1, 1, 1, 1)
	good := func() history.History { return run(t, example(), [][]api.Op{exampleProgram()}, picks) }
	for _, x := range []struct {
		what   string
		change func(h *history.History)
		want   api.Errno
	}{
		{"nothing", func(h *history.History) {}, api.OK},
		{"a pick of nobody at the end", func(h *history.History) { h.Picks = append(h.Picks, api.Pick{Actor: -5}) }, api.OK},
		{"a Keep of a pick that is no crash", func(h *history.History) { h.Picks[0].Keep = []int{1} }, api.OK},
		{"another nobody", func(h *history.History) { h.Picks[2].Actor = 3 }, api.OK},
		{"an operation that is not come to", func(h *history.History) { h.Programs[0] = append(h.Programs[0], abort()) }, api.OK},
		{"what an operation does not use", func(h *history.History) { h.Programs[0][2].Block = 8 }, api.OK},
		{"another set of the same form", func(h *history.History) { h.Programs[0][0].Set = []int{1, 1} }, api.OK},
		{"a mark that is not come to", func(h *history.History) { h.Config.High = 3 }, api.OK},
		{"no nobody", func(h *history.History) { h.Picks = slices.Delete(h.Picks, 2, 3) }, api.ErrRows},
		{"a nobody ahead", func(h *history.History) { h.Picks = slices.Insert(h.Picks, 0, api.Pick{Actor: 9}) }, api.ErrRows},
		{"a pick less", func(h *history.History) { h.Picks = h.Picks[:len(h.Picks)-1] }, api.ErrRows},
		{"a crash at the end", func(h *history.History) { h.Picks = append(h.Picks, crash()) }, api.ErrRows},
		{"a crash for nobody", func(h *history.History) { h.Picks[2] = crash() }, api.ErrRows},
		{"another actor", func(h *history.History) { h.Picks[0].Actor = 1 }, api.ErrRows},
		{"no picks", func(h *history.History) { h.Picks = nil }, api.ErrRows},
		{"another value", func(h *history.History) { h.Programs[0][1].Value[31] = 1 }, api.ErrRows},
		{"another block", func(h *history.History) { h.Programs[0][1].Block = 0 }, api.ErrRows},
		{"another set", func(h *history.History) { h.Programs[0][0].Set = []int{0, 1} }, api.ErrRows},
		{"another operation", func(h *history.History) { h.Programs[0][2].Kind = api.OpAbort }, api.ErrRows},
		{"an operation less", func(h *history.History) { h.Programs[0] = h.Programs[0][:2] }, api.ErrRows},
		{"a mark that is come to", func(h *history.History) { h.Config.High = 1; h.Picks = append(h.Picks, api.Pick{Actor: 2}) }, api.ErrRows},
		{"another client", func(h *history.History) { h.Config.Clients, h.Programs = 2, append(h.Programs, nil) }, api.ErrRows},
		{"another configuration", func(h *history.History) { h.Config.Clients = 2 }, api.ErrProgram},
		{"an operation of no kind", func(h *history.History) { h.Programs[0][2].Kind = 0 }, api.ErrProgram},
		{"no configuration", func(h *history.History) { h.Config.LogCap = 2 }, api.ErrConfig},
		{"too many picks", func(h *history.History) { h.Picks = append(h.Picks, make([]api.Pick, api.MaxPicks)...) }, api.ErrInput},
	} {
		h := good()
		x.change(&h)
		checks(t, h, x.want, x.what)
		h.Rows = nil
		if x.want == api.OK {
			x.want = api.ErrRows
		}
		checks(t, h, x.want, "%s, and no rows", x.what)
	}
}

// TestCheckEmpty: R4, lists without elements are one, whether nil or not.
func TestCheckEmpty(t *testing.T) {
	h := run(t, example(), [][]api.Op{nil}, nil)
	for _, rows := range [][]api.Row{nil, {}} {
		for _, at := range [][]int{nil, {}} {
			for _, picks := range [][]api.Pick{nil, {}} {
				checks(t, history.History{Config: h.Config, Programs: [][]api.Op{{}}, Picks: picks, Rows: rows, At: at}, api.OK, "nothing")
			}
		}
	}
	h = run(t, example(), [][]api.Op{exampleProgram()}, actors(0, 0))
	h.Rows[1].Set = []int{}
	checks(t, h, api.OK, "a set without elements")
}

// TestRunApart: R3, what is handed to Run and Check is not changed and may be written over afterwards; what Run answers may be written over and grown too.
func TestRunApart(t *testing.T) {
	named(t, small(), func(t *testing.T, c api.Config, ch *chance) {
		h := ch.any(t, c, 60, 15)
		twin := spaciousHistory(h)
		parts := historyParts(twin)
		var answer history.History
		untouched(t, parts, func() {
			answer = run(t, c, twin.Programs, twin.Picks)
			checks(t, twin, api.OK, "Check of a history with room to spare")
		})
		spoil(parts)
		must(t, sameHistory(answer, h), "what was handed in is part of what was answered")
		other := run(t, c, h.Programs, h.Picks)
		apart(t, historyParts(answer))
		must(t, sameHistory(other, h) && sameHistory(run(t, c, h.Programs, h.Picks), h), "an answer that is written over changes another one")
	})
}

// TestRunAgain: R5, the same questions again, between others, are answered alike.
func TestRunAgain(t *testing.T) {
	ch := chance(99)
	var l []history.History
	for _, c := range small() {
		l = append(l, ch.any(t, c, 120, 20))
	}
	for range 3 {
		for i := range l {
			h := l[len(l)-1-i]
			must(t, sameHistory(run(t, h.Config, h.Programs, h.Picks), h), "Run answers another history")
			history.Run(api.Config{}, h.Programs, h.Picks)
			k := h
			k.At = nil
			checks(t, k, api.ErrRows, "no places")
			checks(t, h, api.OK, "asked again")
		}
	}
}
