package durable_test

import (
	"iter"
	"math"
	"slices"
	"testing"

	"wicket/api"
	"wicket/durable"
	"wicket/history"
	"wicket/serial"
)

// zeros tells a map of a configuration in which nothing is written yet.
func zeros(of api.Config) []api.Value { return make([]api.Value, of.Blocks) }

// picksOf tells picks of actors, a digit each; x: a crash that keeps nothing.
func picksOf(text string) []api.Pick {
	var picks []api.Pick
	for _, c := range text {
		if c == 'x' {
			picks = append(picks, api.Pick{Crash: true})
		} else {
			picks = append(picks, api.Pick{Actor: int(c - '0')})
		}
	}
	return picks
}

// chapters tells the rows of chapter 22's program, of so many picks.
func chapters(t *testing.T, picks string) []api.Row {
	t.Helper()
	program := []api.Op{{Kind: api.OpBegin, Set: []int{1}}, write(1, filled(7)), {Kind: api.OpCommit}}
	h, no := history.Run(two, [][]api.Op{program}, picksOf(picks))
	must(t, no == api.OK && len(h.Rows) == len(picks), "history.Run answers %d rows, %d", len(h.Rows), no)
	return h.Rows
}

// TestStoreExamples: the chapter's, of the three examples of chapter 22.
func TestStoreExamples(t *testing.T) {
	v7 := filled(7)
	stored(t, two, nil, []api.Value{zero, zero})
	judging(t, two, nil, none())
	for _, x := range []struct {
		picks string
		maps  [][]api.Value
	}{
		{"0000011111", [][]api.Value{{zero, zero}, {zero, v7}}},
		{"0000011x3333", [][]api.Value{{zero, zero}}},
		{"00000111" + "1x33333", [][]api.Value{{zero, zero}, {zero, v7}}},
	} {
		rows := chapters(t, x.picks)
		stored(t, two, rows, x.maps...)
		judging(t, two, rows, none())
		held(t, two, rows)
	}
}

// TestStoreOfNothing: 25.2, of no rows, and of rows of which none stands, at each number of blocks.
func TestStoreOfNothing(t *testing.T) {
	for blocks := 1; blocks <= api.MaxBlocks; blocks++ {
		of := config(blocks, 4, 1, 4, 2)
		var deeds []deed
		for _, fate := range []int{history.Aborted, history.Dropped, history.Lost, history.Open} {
			deeds = append(deeds, deed{fate, 1, []api.Op{write(0, a), write(blocks-1, b)}})
		}
		for _, rows := range [][]api.Row{nil, {}, {crash()}, {crash(), scan(0), row(api.RowLives, 4, 0)}, rowsOf(deeds...)} {
			stored(t, of, rows, zeros(of))
			homely(t, of, rows, zeros(of), -1)
		}
	}
}

// TestStoreOfEachFate: 25.2, just those that are acknowledged or found are laid.
func TestStoreOfEachFate(t *testing.T) {
	for _, fate := range fates() {
		maps := [][]api.Value{{zero, zero}}
		rows := deed{fate, 5, []api.Op{write(0, a), write(1, b)}}.rows(0, 1)
		if fate == history.Acknowledged || fate == history.Found {
			maps = append(maps, []api.Value{a, b})
		}
		txs := txsOf(rows)
		must(t, len(txs) == 1 && txs[0].Fate == fate, "the test's rows: %+v", txs)
		stored(t, two, rows, maps...)
		held(t, two, rows)
		for _, second := range fates() {
			held(t, two, rowsOf(deed{fate, 5, []api.Op{write(0, a), write(1, b)}}, deed{second, 3, []api.Op{write(0, c)}}))
			held(t, two, rowsOf(deed{fate, 5, []api.Op{write(0, a), write(1, b)}}, deed{second, 7, []api.Op{write(1, c)}}))
		}
	}
}

// TestPositionsInAnyOrder: 25.2, they are laid by their Positions, whatever the order of their rows, of their fates and of the lives that they are of.
func TestPositionsInAnyOrder(t *testing.T) {
	places := []uint64{0, 3, api.MaxPos, math.MaxUint64 - 1}
	permutations(4, func(order []int) {
		for kinds := range 16 {
			var deeds []deed
			maps := [][]api.Value{make([]api.Value, 5), nil, nil, nil, nil}
			for i, n := range order {
				d := acked(places[n], write(0, numbered(n+1)), write(n+1, numbered(n+1)))
				if kinds>>i&1 == 1 {
					d.fate = history.Found
				}
				deeds = append(deeds, d)
			}
			for n := range 4 {
				m := slices.Clone(maps[n])
				m[0], m[n+1] = numbered(n+1), numbered(n+1)
				maps[n+1] = m
			}
			of := config(5, 8, 3, 8, 8)
			rows := rowsOf(deeds...)
			stored(t, of, rows, maps...)
			homely(t, of, rows, maps[4], -1)
			homely(t, of, rows, maps[3], 0)
		}
	})
}

// TestWhatIsWritten: 25.2, one that stands and has written nothing, one block, one block twice, all blocks.
func TestWhatIsWritten(t *testing.T) {
	of := config(4, 8, 3, 8, 8)
	all := []api.Value{a, b, c, numbered(7)}
	for _, x := range []struct {
		what string
		ops  []api.Op
		want []api.Value
	}{
		{"nothing", nil, []api.Value{c, zero, c, zero}},
		{"nothing, but it has read", []api.Op{read(0, c), read(1, zero)}, []api.Value{c, zero, c, zero}},
		{"one block", []api.Op{write(1, a)}, []api.Value{c, a, c, zero}},
		{"one that was written", []api.Op{write(2, a)}, []api.Value{c, zero, a, zero}},
		{"one twice", []api.Op{write(3, a), write(3, b)}, []api.Value{c, zero, c, b}},
		{"one twice, with another between", []api.Op{write(3, a), write(0, a), write(3, zero)}, []api.Value{a, zero, c, zero}},
		{"zeros", []api.Op{write(0, zero), write(2, zero)}, make([]api.Value, 4)},
		{"what stands there", []api.Op{write(0, c)}, []api.Value{c, zero, c, zero}},
		{"all", []api.Op{write(3, all[3]), write(0, all[0]), write(2, all[2]), write(1, all[1])}, all},
	} {
		t.Run(x.what, func(t *testing.T) {
			for _, fate := range []int{history.Acknowledged, history.Found} {
				rows := rowsOf(acked(1, write(0, c), write(2, c)), deed{fate, 2, x.ops})
				stored(t, of, rows, make([]api.Value, 4), []api.Value{c, zero, c, zero}, x.want)
				judging(t, of, rows, none())
				held(t, of, rows)
			}
		})
	}
}

// TestStoreAtAllBlocks: 25.2, each block of each store has a value of its own, and the last write of one counts.
func TestStoreAtAllBlocks(t *testing.T) {
	for blocks := 1; blocks <= api.MaxBlocks; blocks++ {
		of := config(blocks, 4, 1, 4, 8)
		var first, last []api.Op
		want := zeros(of)
		for block := range blocks {
			first, last = append(first, write(block, c)), append(last, write(block, numbered(block+1)))
			want[block] = numbered(block + 1)
		}
		early := slices.Repeat([]api.Value{c}, blocks)
		stored(t, of, rowsOf(acked(1, append(first, last...)...)), zeros(of), want)
		stored(t, of, rowsOf(found(9, last...), acked(4, first...)), zeros(of), early, want)
	}
}

// TestLivesAndCrashes: 25.2, crashes and readings between, of which the first one behind a crash says what is found.
func TestLivesAndCrashes(t *testing.T) {
	write0 := write(0, a)
	pending := func(client int, ticket, position uint64, op api.Op) []api.Row {
		return append(begun(client, ticket, op), asks(client, ticket), commits(ticket, position))
	}
	first, second := pending(0, 1, 4, write0), pending(1, 2, 6, write(1, b))
	both := slices.Concat(first, second)
	maps := func(l ...[]api.Value) [][]api.Value { return append([][]api.Value{{zero, zero}}, l...) }
	foundOne, foundBoth := maps([]api.Value{a, zero}), maps([]api.Value{a, zero}, []api.Value{a, b})
	for _, x := range []struct {
		what   string
		behind []api.Row
		want   [][]api.Value
	}{
		{"no crash", nil, maps()},
		{"no crash, but a reading", []api.Row{scan(9)}, maps()},
		{"a reading, and then a crash", []api.Row{scan(9), crash()}, maps()},
		{"a crash alone", []api.Row{crash()}, maps()},
		{"a reading that finds both", []api.Row{crash(), scan(7)}, foundBoth},
		{"a reading that finds one", []api.Row{crash(), scan(6)}, foundOne},
		{"a reading that finds one, just", []api.Row{crash(), scan(5)}, foundOne},
		{"a reading that finds none", []api.Row{crash(), scan(4)}, maps()},
		{"the first of two readings says it", []api.Row{crash(), scan(5), scan(9)}, foundOne},
		{"the first of two readings says it, of none", []api.Row{crash(), scan(0), scan(9)}, maps()},
		{"two crashes and a reading", []api.Row{crash(), crash(), scan(6)}, foundOne},
		{"a crash between two readings", []api.Row{crash(), scan(9), crash(), scan(0)}, foundBoth},
		{"a crash between two readings, of none", []api.Row{crash(), scan(0), crash(), scan(9)}, maps()},
		{"one that is acknowledged, a crash and a reading that finds none", []api.Row{done(2, 6), crash(), scan(0)}, maps([]api.Value{zero, b})},
		{"one that is acknowledged, a crash", []api.Row{done(1, 4), crash()}, foundOne},
	} {
		t.Run(x.what, func(t *testing.T) {
			rows := slices.Concat(both, x.behind)
			stored(t, two, rows, x.want...)
			held(t, two, rows)
			later := slices.Concat(rows, acked(20, write(0, c)).rows(5, 9))
			held(t, two, later)
		})
	}
}

// TestStepsEndedEarly: 25.2, a loop may end at each of its pairs, and go through it again.
func TestStepsEndedEarly(t *testing.T) {
	rows := rowsOf(acked(5, write(0, a)), lost(3), acked(2, write(1, b)), found(9, write(0, c)), acked(7))
	want := mapsOf(two, rows)
	must(t, len(want) == 5, "the test's rows have %d maps", len(want))
	steps, no := durable.Steps(two, rows)
	must(t, no == api.OK, "Steps answers %d", no)
	for range 3 {
		for last := range want {
			k := 0
			for n, m := range steps {
				must(t, n == k && slices.Equal(m, want[k]), "Steps tells %d, %v, want %v", n, m, want[k])
				if k == last {
					break
				}
				k++
			}
			must(t, k == last, "a loop that should end at %d has ended at %d", last, k)
			calls := 0
			steps(func(n int, m []api.Value) bool {
				calls++
				return n < last
			})
			must(t, calls == last+1, "%d pairs were told behind the end at %d", calls, last)
		}
		k := 0
		for n, m := range steps {
			must(t, n == k && slices.Equal(m, want[k]), "Steps tells %d, %v, want %v", n, m, want[k])
			k++
		}
		must(t, k == len(want), "%d pairs", k)
	}
}

// pulled is a sequence that is gone through pair by pair.
type pulled struct {
	next func() (int, []api.Value, bool)
	at   int
	want [][]api.Value
}

// step takes one more pair, and writes all over its map.
func (p *pulled) step(t *testing.T) {
	t.Helper()
	n, m, ok := p.next()
	if p.at == len(p.want) {
		must(t, !ok, "a pair behind the last one: %d, %v", n, m)
		return
	}
	must(t, ok && n == p.at && slices.Equal(m, p.want[p.at]), "the pair %d is %d, %v, %v, want %v", p.at, n, m, ok, p.want[p.at])
	p.at++
	for i := range m[:cap(m)] {
		m[:cap(m)][i] = filled(99)
	}
}

// TestStepsBetweenOneAnother: 25.2, several that are gone through at once, of one sequence and of others, in any order, while what they tell is written over.
func TestStepsBetweenOneAnother(t *testing.T) {
	ch := chance(29)
	for n := range 60 {
		w := world{of: config(1+n%5, 8, 1, 8, 4), crashes: 40, values: ch.few}
		one, two := ch.rows(w, 40+ch.below(80)), ch.rows(w, 40+ch.below(80))
		var l []*pulled
		for _, rows := range [][]api.Row{one, two} {
			steps, no := durable.Steps(w.of, rows)
			must(t, no == api.OK, "Steps answers %d", no)
			again, _ := durable.Steps(w.of, rows)
			for _, s := range []iter.Seq2[int, []api.Value]{steps, steps, again} {
				next, stop := iter.Pull2(s)
				defer stop()
				l = append(l, &pulled{next: next, want: mapsOf(w.of, rows)})
			}
		}
		for range 12 * len(l) {
			l[ch.below(len(l))].step(t)
		}
		for _, p := range l {
			for range len(p.want) + 1 {
				p.step(t)
			}
		}
	}
}

// TestStepsWithinSteps: 25.2, a loop within a loop of one sequence.
func TestStepsWithinSteps(t *testing.T) {
	rows := rowsOf(acked(1, write(0, a)), acked(2, write(1, b)), acked(3, write(0, c)))
	want := [][]api.Value{{zero, zero}, {a, zero}, {a, b}, {c, b}}
	steps, _ := durable.Steps(two, rows)
	pairs := 0
	for i, m := range steps {
		for k, o := range steps {
			must(t, slices.Equal(m, want[i]) && slices.Equal(o, want[k]), "%d and %d: %v and %v", i, k, m, o)
			o[0], o[1] = filled(9), filled(9)
			pairs++
			if k > i {
				break
			}
		}
	}
	must(t, pairs == 2+3+4+4, "%d pairs", pairs)
}

// stepsHold holds 25.9: the last map is Store, and each differs from the one ahead at most where its transaction has written; there it has what was written.
func stepsHold(t *testing.T, of api.Config, rows []api.Row) {
	t.Helper()
	maps := stepped(t, of, rows)
	store, no := durable.Store(of, rows)
	must(t, no == api.OK && slices.Equal(maps[len(maps)-1], store), "the last map is %v, Store answers %v", maps[len(maps)-1], store)
	must(t, slices.Equal(maps[0], zeros(of)), "the first map is %v", maps[0])
	txs := txsOf(rows)
	l := positions(rows)
	must(t, len(maps) == len(l)+1, "%d maps of %d that stand", len(maps), len(l))
	for k, p := range l {
		x := txs[slices.IndexFunc(txs, func(x history.Tx) bool { return stands(x) && x.Position == p })]
		for block := range of.Blocks {
			i := slices.IndexFunc(x.Writes, func(w api.Image) bool { return w.Block == block })
			if i < 0 {
				must(t, maps[k+1][block] == maps[k][block], "map %d differs at %d, which was not written", k+1, block)
			} else {
				must(t, maps[k+1][block] == x.Writes[i].Value, "map %d has not what was written to %d", k+1, block)
			}
		}
	}
}

// TestStepsHold: 25.9 and the model's store, of rows by chance.
func TestStepsHold(t *testing.T) {
	ch := chance(31)
	seen := map[api.Errno]int{}
	for n := range 500 {
		w := world{of: []api.Config{config(1, 2, 1, 1, 2), config(3, 4, 1, 2, 4), config(64, 8, 1, 1, 8)}[n%3], crashes: []int{0, 20, 60}[n/3%3], values: ch.few, twice: ch.oneIn(2)}
		rows := ch.rows(w, ch.below(120))
		no := mayNot(w.of, rows)
		seen[no]++
		if no != api.OK {
			refused(t, w.of, rows, zeros(w.of), no, no)
			continue
		}
		stored(t, w.of, rows, mapsOf(w.of, rows)...)
		stepsHold(t, w.of, rows)
	}
	must(t, seen[api.OK] > 100 && seen[api.ErrRows] > 10, "%v", seen)
}

// TestStoreIsSerialMap: 25.8, where no row is RowCrashed, and Store has no error; of rows with a crash it is the same, as those count that stand.
func TestStoreIsSerialMap(t *testing.T) {
	ch := chance(37)
	errs := map[api.Errno]int{}
	for n := range 600 {
		w := world{of: config(1+n%7, 8, 1, 4, 5), values: uniques(), twice: n%3 == 0}
		if n%4 == 0 {
			w.crashes = 25
		}
		rows := ch.rows(w, ch.below(150))
		store, no := durable.Store(w.of, rows)
		errs[no]++
		m, noOf := serial.Map(rows, w.of.Blocks)
		must(t, no == noOf, "Store answers %d, serial.Map %d", no, noOf)
		must(t, slices.Equal(store, m), "Store answers %v, serial.Map %v, of %+v", store, m, rows)
	}
	must(t, errs[api.OK] > 100 && errs[api.ErrRows] > 20, "%v", errs)
}

// TestStoreOfLongRows: rows that no run is long enough for are told soon.
func TestStoreOfLongRows(t *testing.T) {
	t.Parallel()
	const n = 60000
	of := config(3, 8, 3, 8, 8)
	var rows []api.Row
	for i := range n {
		rows = append(rows, acked(uint64(n-i), write(i%3, numbered(i+1))).rows(i%8, uint64(i+1))...)
	}
	want := []api.Value{numbered(1), numbered(2), numbered(3)}
	store, no := durable.Store(of, rows)
	must(t, no == api.OK && slices.Equal(store, want), "Store answers %v, %d", store, no)
	homely(t, of, rows, want, -1)
	k := 0
	steps, _ := durable.Steps(of, rows)
	for range steps {
		k++
	}
	must(t, k == n+1, "%d maps", k)
}
