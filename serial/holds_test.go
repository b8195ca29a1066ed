package serial_test

import (
	"fmt"
	"slices"
	"testing"

	"wicket/api"
	"wicket/engine"
	"wicket/history"
	"wicket/serial"
)

// isStore holds that rows of a run judge it Good, and that their map is the engine's store.
func isStore(t *testing.T, e *engine.Engine, rows []api.Row, blocks int) {
	t.Helper()
	f, no := serial.Judge(rows, blocks)
	must(t, no == api.OK && f == none(), "Judge answers %+v, %d, of %+v", f, no, rows)
	m, no := serial.Map(rows, blocks)
	must(t, no == api.OK && len(m) == blocks, "Map answers %d blocks, %d", len(m), no)
	if e.Running() {
		must(t, slices.Equal(m, e.Store()), "Map answers %v, the store is %v, of %+v", m, e.Store(), rows)
	}
}

// TestRunsWithoutCrash: 24.5, at every pick of long runs.
func TestRunsWithoutCrash(t *testing.T) {
	named(t, func(t *testing.T, of api.Config, ch *chance) {
		kinds := map[int]int{}
		for _, value := range []func() api.Value{uniques(), ch.few} {
			rows := ch.run(t, of, 500, 0, value, func(e *engine.Engine, rows []api.Row) { isStore(t, e, rows, of.Blocks) })
			judged(t, rows, of.Blocks)
			for _, r := range rows {
				kinds[r.Kind]++
			}
		}
		for _, kind := range []int{api.RowRejected, api.RowRead, api.RowWritten, api.RowRefused, api.RowAborted, api.RowDone} {
			must(t, kinds[kind] > 0, "no run has a row of kind %d: %v", kind, kinds)
		}
	})
}

// TestRunsWithCrashes: W1 and W2, of rows with lives and crashes: at every pick nothing is found, and in each life the map is the store.
func TestRunsWithCrashes(t *testing.T) {
	named(t, func(t *testing.T, of api.Config, ch *chance) {
		for _, often := range []int{5, 15, 60} {
			rows := ch.run(t, of, 350, often, uniques(), func(e *engine.Engine, rows []api.Row) { isStore(t, e, rows, of.Blocks) })
			judged(t, rows, of.Blocks)
		}
	})
}

// TestAllFatesComeInRuns: such runs come to each fate, so that what is held of them is held of all.
func TestAllFatesComeInRuns(t *testing.T) {
	ch := chance(5)
	count := map[int]int{}
	for _, of := range configs() {
		ch.run(t, of, 350, 15, uniques(), func(e *engine.Engine, rows []api.Row) {
			txs, _ := history.Txs(rows)
			for _, x := range txs {
				count[x.Fate]++
			}
		})
	}
	for _, f := range fates() {
		must(t, count[f] > 50, "fate %d came %d times", f, count[f])
	}
}

// state tells all that matters for what may come, and for what is judged.
func state(t *testing.T, e *engine.Engine, rows []api.Row) string {
	t.Helper()
	txs, no := history.Txs(rows)
	must(t, no == api.OK, "Txs answers %d", no)
	key := ""
	for _, x := range txs {
		key += fmt.Sprint(x.Client, x.Ticket, x.Fate, x.Position, x.Set, x.Writes)
		for _, r := range x.Reads {
			key += fmt.Sprint(r.Block, r.Value)
		}
	}
	for n := range 3 {
		view, _ := e.Client(n)
		key += fmt.Sprint(view)
	}
	used, reserved := e.Room()
	for n := range e.Actors() {
		key += fmt.Sprint(e.Enabled(n))
	}
	kinds := 0
	for _, r := range rows {
		if r.Kind >= api.RowTaken && r.Kind != api.RowDone {
			kinds = kinds*31 + r.Kind
		}
	}
	return key + fmt.Sprint(used, reserved, kinds, e.Disk().Image())
}

// TestAllSchedules: 24.5, at every moment of every schedule of small worlds (one way alone to each state).
func TestAllSchedules(t *testing.T) {
	begin, commit, abort := api.Op{Kind: api.OpBegin, Set: []int{0}}, api.Op{Kind: api.OpCommit}, api.Op{Kind: api.OpAbort}
	for i, x := range []struct {
		of       api.Config
		programs [][]api.Op
	}{
		{config(1, 2, 1, 1, 2), [][]api.Op{{begin, read(0, zero), write(0, a), commit}, {begin, write(0, b), read(0, zero), commit}}},
		{config(1, 3, 1, 3, 2), [][]api.Op{{begin, read(0, zero), write(0, a), abort, begin, read(0, zero)}, {begin, read(0, zero), write(0, b), commit}}},
		{config(2, 4, 1, 2, 2), [][]api.Op{{begin, write(0, a), commit}, {begin, read(0, zero), commit, {Kind: api.OpBegin, Set: []int{1}}, read(0, zero), write(1, b)}}},
		{config(1, 2, 1, 1, 3), [][]api.Op{{begin, write(0, a), commit}, {begin, write(0, b), commit}, {begin, read(0, zero), commit}}},
	} {
		t.Run(fmt.Sprint(i), func(t *testing.T) {
			t.Parallel()
			e, no := engine.New(x.of, x.programs)
			must(t, no == api.OK, "engine.New answers %d", no)
			seen := map[string]bool{}
			var walk func(e *engine.Engine, rows []api.Row)
			walk = func(e *engine.Engine, rows []api.Row) {
				key := state(t, e, rows)
				if seen[key] {
					return
				}
				seen[key] = true
				isStore(t, e, rows, x.of.Blocks)
				for n := range e.Actors() {
					if !e.Enabled(n) {
						continue
					}
					next := e.Copy()
					r, _ := next.Pick(api.Pick{Actor: n})
					walk(next, append(rows[:len(rows):len(rows)], r))
				}
			}
			walk(e, nil)
			t.Logf("%d states", len(seen))
			must(t, len(seen) > 50, "%d states", len(seen))
		})
	}
}

// ahead tells whether a transaction has read a block ahead of any write of its own, and whether it has written it.
func (l looker) ahead(tx, block int) (readFirst, written bool) {
	for _, i := range l.own(tx) {
		switch r := l.rows[i]; {
		case r.Block != block:
		case r.Kind == api.RowWritten:
			written = true
		case !written:
			readFirst = true
		}
	}
	return readFirst, written
}

// inTheWay tells the blocks that both of two transactions have written, and those that one has written and the other one read ahead of any write of its own.
func (l looker) inTheWay(x, y, blocks int) (both, seen []int) {
	for block := range blocks {
		readX, writtenX := l.ahead(x, block)
		readY, writtenY := l.ahead(y, block)
		if writtenX && writtenY {
			both = append(both, block)
		}
		if writtenX && readY || writtenY && readX {
			seen = append(seen, block)
		}
	}
	return both, seen
}

// shows tells whether what a block was is to be seen behind: the next one that has it reads it first, or nobody has written it up to the end.
func (l looker) shows(order []int, block int) bool {
	for _, tx := range order {
		readFirst, written := l.ahead(tx, block)
		if readFirst || written {
			return readFirst
		}
	}
	return true
}

// exchanged tells an order with two neighbours exchanged.
func exchanged(order []int, k int) []int {
	turned := slices.Clone(order)
	turned[k], turned[k+1] = turned[k+1], turned[k]
	return turned
}

// TestNeighboursMayChange: 24.6, of right orders by chance: two in nobody's way may change places; of values that are not alike two which are in the way are found just where it shows.
func TestNeighboursMayChange(t *testing.T) {
	ch := chance(131)
	may, found, hidden := 0, 0, 0
	for _, w := range []world{{clients: 3, blocks: 2}, {clients: 5, blocks: 6, crashes: 40}, {clients: 8, blocks: 12, crashes: 90}} {
		for n := range 150 {
			alike := n%2 == 0
			w.values = uniques()
			if alike {
				w.values = ch.few
			}
			rows := ch.rows(w, 30+ch.below(90))
			order := ch.some(look(rows).txs)
			rows = righted(rows, order)
			l := look(rows)
			f, m, no := serial.By(rows, w.blocks, order)
			must(t, no == api.OK && f == none(), "of right reads: %+v, %d", f, no)
			for k := range len(order) - 1 {
				turned := exchanged(order, k)
				g, mg, no := serial.By(rows, w.blocks, turned)
				byHolds(t, rows, w.blocks, turned)
				both, seen := l.inTheWay(order[k], order[k+1], w.blocks)
				same := no == api.OK && g == none() && slices.Equal(m, mg)
				if len(both) == 0 && len(seen) == 0 {
					must(t, same, "%v with %d exchanged: %+v, %v, want %v", order, k, g, mg, m)
					may++
				} else if !alike {
					shows := len(seen) > 0 || slices.ContainsFunc(both, func(block int) bool { return l.shows(order[k+2:], block) })
					must(t, same != shows, "%v with %d exchanged: %+v, it shows: %v", order, k, g, shows)
					must(t, len(seen) == 0 || !g.Good, "%v with %d exchanged: a read ahead of a write is not found", order, k)
					if shows {
						found++
					} else {
						hidden++
					}
				}
			}
		}
	}
	must(t, may > 200 && found > 200 && hidden > 20, "%d might, %d were found, %d hidden", may, found, hidden)
}

// TestNeighboursByHand: 24.6, each way in which two can stand in one another's way, and each in which they don't.
func TestNeighboursByHand(t *testing.T) {
	for _, x := range []struct {
		what string
		ops  [][]api.Op // of right reads in this order
		want serial.Finding
		same bool // the map
	}{
		{"of different blocks", [][]api.Op{{write(0, a), read(0, a)}, {read(1, zero), write(1, b)}}, none(), true},
		{"that both read", [][]api.Op{{read(0, zero)}, {read(0, zero), write(1, b)}}, none(), true},
		{"that do nothing", [][]api.Op{{}, {write(0, a)}}, none(), true},
		{"a read behind a write", [][]api.Op{{write(0, a)}, {read(0, a)}}, serial.Finding{Tx: 1, Read: 0, Want: zero}, true},
		{"a write behind a read", [][]api.Op{{read(1, zero), read(0, zero)}, {write(0, a)}}, serial.Finding{Tx: 0, Read: 1, Want: a}, true},
		{"two writes", [][]api.Op{{write(0, a)}, {write(0, b)}}, none(), false},
		{"two writes of one value", [][]api.Op{{write(0, a)}, {write(0, a)}}, none(), true},
		{"two writes, with reads of their own", [][]api.Op{{write(0, a), read(0, a)}, {write(0, b), read(0, b)}}, none(), false},
		{"a write of what stood there, and a read", [][]api.Op{{write(0, zero)}, {read(0, zero)}}, none(), true},
		{"both read and write", [][]api.Op{{read(0, zero), write(0, a)}, {read(0, a), write(0, b)}}, serial.Finding{Tx: 1, Read: 0, Want: zero}, false},
		{"a read behind a write of its own", [][]api.Op{{write(0, a)}, {write(0, c), read(0, c)}}, none(), false},
		{"two writes, and a third one", [][]api.Op{{write(0, a)}, {write(0, b)}, {write(0, c)}}, none(), true},
		{"two writes, and a read behind", [][]api.Op{{write(0, a)}, {write(0, b)}, {read(0, b), write(0, c)}}, serial.Finding{Tx: 2, Read: 0, Want: a}, true},
	} {
		t.Run(x.what, func(t *testing.T) {
			var deeds []deed
			var order []int
			for i, ops := range x.ops {
				deeds, order = append(deeds, acked(uint64(i), ops...)), append(order, i)
			}
			rows := rowsOf(deeds...)
			f, m, no := serial.By(rows, 2, order)
			must(t, no == api.OK && f == none(), "of right reads: %+v, %d", f, no)
			g, mg, no := serial.By(rows, 2, exchanged(order, 0))
			must(t, no == api.OK && g == x.want, "exchanged: %+v, %d, want %+v", g, no, x.want)
			must(t, slices.Equal(m, mg) == x.same, "the maps are %v and %v", m, mg)
		})
	}
}

// TestByIsAlone: 24.7, By is Good just if Alone tells what the rows tell; and its map is Alone's.
func TestByIsAlone(t *testing.T) {
	ch := chance(17)
	seen := map[bool]int{}
	for _, w := range []world{{clients: 2, blocks: 1}, {clients: 4, blocks: 3, crashes: 30}, {clients: 8, blocks: api.MaxBlocks, crashes: 60}} {
		w.values = ch.few
		for range 300 {
			rows := ch.rows(w, 10+ch.below(80))
			order := ch.some(look(rows).txs)
			switch ch.below(3) {
			case 0:
				rows = righted(rows, order)
			case 1: // all but one are right
				rows = righted(rows, order)
				if i := ch.below(len(rows)); rows[i].Kind == api.RowRead {
					rows[i].Value = ch.few()
				}
			}
			l := look(rows)
			var txs [][]api.Op
			var rowsTell [][]api.Value
			for _, tx := range order {
				ops, told := l.opsOf(tx)
				txs, rowsTell = append(txs, ops), append(rowsTell, told)
			}
			f, m, no := serial.By(rows, w.blocks, order)
			must(t, no == api.OK, "By answers %d", no)
			told, end, no := serial.Alone(w.blocks, txs)
			must(t, no == api.OK && slices.Equal(m, end), "By's map is %v, Alone's %v, %d", m, end, no)
			must(t, f.Good == slices.EqualFunc(told, rowsTell, slices.Equal), "By: %+v, Alone tells %v, the rows %v", f, told, rowsTell)
			seen[f.Good]++
		}
	}
	must(t, seen[true] > 200 && seen[false] > 200, "%v", seen)
}

// others tells values that are not a value, near it and far.
func others(v api.Value) []api.Value {
	var l []api.Value
	for _, i := range []int{0, 1, 15, 16, 30, 31} {
		near := v
		near[i] ^= 1
		l = append(l, near)
		near[i] ^= 0x81
		l = append(l, near)
	}
	for _, w := range []api.Value{zero, a, numbered(1)} {
		if w != v {
			l = append(l, w)
		}
	}
	return l
}

// oneChanged holds 24.8, of rows of which Judge is Good; it tells of how many reads.
func oneChanged(t *testing.T, rows []api.Row, blocks int) int {
	t.Helper()
	f, no := serial.Judge(rows, blocks)
	must(t, no == api.OK && f == none(), "of right reads: %+v, %d", f, no)
	m, _ := serial.Map(rows, blocks)
	order, _ := serial.Order(rows)
	txs, _ := history.Txs(rows)
	n := 0
	for place, x := range txs {
		counts := slices.Contains(order, place)
		for k, r := range x.Reads {
			spoilt := slices.Clone(rows)
			for _, v := range others(r.Value) {
				spoilt[r.Row].Value = v
				want := none()
				if counts {
					want = serial.Finding{Tx: place, Read: k, Want: r.Value}
				}
				f, no := serial.Judge(spoilt, blocks)
				must(t, no == api.OK && f == want, "read %d of %d changed: %+v, %d, want %+v", k, place, f, no, want)
				n++
			}
			end, _ := serial.Map(spoilt, blocks)
			must(t, slices.Equal(end, m), "the map is another one")
		}
	}
	return n
}

// TestOneReadChanged: 24.8, of right rows by chance and of runs, with crashes too.
func TestOneReadChanged(t *testing.T) {
	ch := chance(23)
	n := 0
	for _, w := range []world{{clients: 3, blocks: 2}, {clients: 6, blocks: 4, crashes: 50}} {
		w.values = ch.few
		for range 40 {
			rows := ch.rows(w, 20+ch.below(80))
			order, _ := ordered(rows)
			n += oneChanged(t, righted(rows, order), w.blocks)
		}
	}
	must(t, n > 1000, "%d changes", n)
	named(t, func(t *testing.T, of api.Config, ch *chance) {
		n := 0
		for _, often := range []int{0, 40} {
			n += oneChanged(t, ch.run(t, of, 250, often, ch.few, nil), of.Blocks)
		}
		must(t, n > 0, "no changes")
	})
}
