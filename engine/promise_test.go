package engine_test

import (
	"bytes"
	"slices"
	"testing"

	"wicket/api"
	"wicket/engine"
)

// turn is an operation of a client that has to wait till all transactions ahead have done theirs.
type turn struct {
	client, place int
}

// play is programs for a list of transactions that are to be committed in its order, whoever commits them.
type play struct {
	programs        [][]api.Op
	begins, commits []turn
}

// plan deals transactions out among so many of the clients, in one of many ways: with more blocks declared, with reads, with what is rejected and given up between.
func (ch *chance) plan(c api.Config, txs [][]api.Image, clients int) play {
	p := play{programs: make([][]api.Op, c.Clients)}
	for _, images := range txs {
		n := ch.below(clients)
		l := p.programs[n]
		if ch.oneIn(3) {
			l = append(l, begin(ch.set(c)...), write(ch.below(c.Blocks), 99), abort())
		}
		set := []int{}
		for _, i := range images {
			set = append(set, i.Block)
		}
		for len(set) == 0 || len(set) < c.MaxRes && ch.oneIn(2) {
			set = append(set, ch.below(c.Blocks))
		}
		p.begins = append(p.begins, turn{n, len(l)})
		l = append(l, begin(set...))
		for _, i := range ch.shuffled(len(images)) {
			if ch.oneIn(2) {
				l = append(l, write(images[i].Block, 98), read(ch.below(c.Blocks)))
			}
			l = append(l, api.Op{Kind: api.OpWrite, Block: images[i].Block, Value: images[i].Value})
		}
		p.commits = append(p.commits, turn{n, len(l)})
		p.programs[n] = append(l, commit())
	}
	return p
}

// shuffled tells the numbers below n in some order.
func (ch *chance) shuffled(n int) []int {
	var l []int
	for i := range n {
		l = slices.Insert(l, ch.below(i+1), i)
	}
	return l
}

// played tells an engine that has played it: all is committed, in the order, and the daemon is idle.
func (p play) played(t *testing.T, c api.Config, ch *chance) *engine.Engine {
	t.Helper()
	e := made(t, c, p.programs...)
	begun, asked := 0, 0
	for asked < len(p.commits) || e.Enabled(c.Clients) {
		n := ch.below(c.Clients + 2)
		if v, ok := e.Client(n); ok {
			at := turn{n, v.Place}
			if v.State == api.None && slices.Contains(p.begins, at) && p.begins[begun] != at {
				continue
			}
			if v.State == api.Active && slices.Contains(p.commits, at) && p.commits[asked] != at {
				continue
			}
		}
		row, _ := e.Pick(api.Pick{Actor: n})
		if row.Kind == api.RowBegun && begun < len(p.begins) && p.begins[begun].client == n {
			if v, _ := e.Client(n); v.Place == p.begins[begun].place+1 {
				begun++
			}
		}
		if row.Kind == api.RowRequested {
			asked++
		}
	}
	return e
}

// transactions tells so many, each of some images.
func (ch *chance) transactions(c api.Config, n int) [][]api.Image {
	var txs [][]api.Image
	for range n {
		var images []api.Image
		for range ch.below(c.MaxRes + 1) {
			b := ch.below(c.Blocks)
			if !slices.ContainsFunc(images, func(i api.Image) bool { return i.Block == b }) {
				images = append(images, api.Image{Block: b, Value: ch.value()})
			}
		}
		txs = append(txs, images)
	}
	return txs
}

// TestOneDisk: W6: runs in which the same images are committed in the same order come, behind any crash and its recovery, to the same homes, byte by byte.
func TestOneDisk(t *testing.T) {
	named(t, append(small(), config(16, 20, 8, 9, 4)), func(t *testing.T, c api.Config, ch *chance) {
		for range 6 {
			txs := ch.transactions(c, 1+ch.below(12))
			values := make([]api.Value, c.Blocks)
			for _, images := range txs {
				for _, i := range images {
					values[i.Block] = i.Value
				}
			}
			var want []byte
			for b, v := range values {
				home := laidHome(b, v)
				want = append(want, home[:]...)
			}
			for clients := 1; clients <= c.Clients; clients++ {
				e := ch.plan(c, txs, clients).played(t, c, ch)
				for range ch.below(8) {
					e.Pick(api.Pick{Actor: c.Clients + 1})
				}
				e.Pick(api.Pick{Crash: true, Keep: ch.keep(len(e.Disk().Waiting()))})
				for !e.Running() {
					e.Pick(api.Pick{Actor: c.Clients + 2})
				}
				must(t, bytes.Equal(e.Disk().Image()[64:64*(1+c.Blocks)], want), "behind %d transactions of %d clients the homes differ", len(txs), clients)
			}
		}
	})
}

// bounded tells programs as W3 wants them: each Begin that takes a ticket declares at most r blocks, and behind it come at most k operations and a Commit.
func (ch *chance) bounded(c api.Config, k, r int) [][]api.Op {
	programs := make([][]api.Op, c.Clients)
	for n := range programs {
		for range 1 + ch.below(5) {
			var set []int
			for range 1 + ch.below(r) {
				set = append(set, ch.below(c.Blocks))
			}
			programs[n] = append(programs[n], begin(set...))
			for range ch.below(k + 1) {
				op := api.Op{Kind: 1 + ch.below(3), Set: set, Block: ch.near(c, set), Value: ch.value()}
				programs[n] = append(programs[n], op)
			}
			programs[n] = append(programs[n], commit())
		}
	}
	return programs
}

// window counts windows of a run's picks from a moment on.
type window struct {
	open  []int // actors that were enabled at its beginning, and have neither been picked nor been not enabled since
	ended int
}

// enabled tells who is.
func enabled(e *engine.Engine) []int {
	var l []int
	for n := range e.Actors() {
		if e.Enabled(n) {
			l = append(l, n)
		}
	}
	return l
}

// picked tells a window of a pick, and who is enabled behind it.
func (w *window) picked(actor int, now []int) {
	none := len(w.open) == 0
	w.open = slices.DeleteFunc(w.open, func(n int) bool { return n == actor || !slices.Contains(now, n) })
	if len(w.open) == 0 && !none {
		w.ended++
		w.open = slices.Clone(now)
	}
}

// TestBounded: W3: each transaction is acknowledged within so many windows from behind its Begin, by rounds in rising and falling order and by chance.
func TestBounded(t *testing.T) {
	named(t, small(), func(t *testing.T, c api.Config, ch *chance) {
		for i := range 9 {
			k, r := ch.below(4), 1+ch.below(c.MaxRes)
			e := made(t, c, ch.bounded(c, k, r)...)
			bound := c.Clients * (2*c.LogCap + r + k + 13 + (2*c.Clients-1)*(r+2))
			waits := map[uint64]*window{}
			for at := 0; len(enabled(e)) > 0; at++ {
				n := ch.below(e.Actors())
				switch i % 3 {
				case 1:
					n = at % e.Actors()
				case 2:
					n = e.Actors() - 1 - at%e.Actors()
				}
				row, _ := e.Pick(api.Pick{Actor: n})
				now := enabled(e)
				for ticket, w := range waits {
					w.picked(n, now)
					must(t, w.ended <= bound, "ticket %d is not acknowledged within %d windows", ticket, bound)
				}
				switch row.Kind {
				case api.RowBegun:
					waits[row.Ticket] = &window{open: now}
				case api.RowDone:
					delete(waits, row.Ticket)
				}
			}
			must(t, len(waits) == 0, "%d transactions are never acknowledged", len(waits))
		}
	})
}
