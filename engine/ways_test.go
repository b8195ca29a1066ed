package engine_test

import (
	"fmt"
	"testing"

	"wicket/api"
)

// key tells all that a model and a judge know: two runs with one key go on alike.
func (r run) key() string {
	m, j := *r.m, r.j
	m.programs = nil
	s := fmt.Sprint(m, j.values, j.behind, j.acked, j.begun, j.in, j.used)
	for n := range m.c.Clients {
		if d := j.open[n]; d != nil {
			s += fmt.Sprint(n, *d)
		}
	}
	for _, d := range append(j.line[:len(j.line):len(j.line)], j.adrift...) {
		s += fmt.Sprint(*d)
	}
	return s
}

// crashes tells every crash that can come here: each choice of what is kept, if little waits, else none and all.
func (r run) crashes() []api.Pick {
	n := len(r.m.waiting)
	var all []int
	for i := range n {
		all = append(all, i)
	}
	if n > 3 {
		return []api.Pick{{Crash: true}, {Crash: true, Keep: all}}
	}
	var l []api.Pick
	for choice := range 1 << n {
		p := api.Pick{Crash: true}
		for i := range n {
			if choice>>i&1 == 1 {
				p.Keep = append(p.Keep, i)
			}
		}
		l = append(l, p)
	}
	return l
}

// allWays goes through all that can become of a run, with up to so many crashes: each state of the whole once. It tells how many states there are.
func allWays(t *testing.T, first run, crashes int) int {
	t.Helper()
	type state struct {
		run
		crashes int
	}
	seen := map[string]bool{}
	for todo := []state{{first, crashes}}; len(todo) > 0; {
		s := todo[len(todo)-1]
		todo = todo[:len(todo)-1]
		k := fmt.Sprint(s.crashes, s.key())
		if seen[k] {
			continue
		}
		seen[k] = true
		next := 0
		for n := range s.e.Actors() {
			twin := s.copied()
			if _, ok := twin.pick(t, api.Pick{Actor: n}); ok {
				todo = append(todo, state{twin, s.crashes})
				next++
			}
		}
		if next == 0 {
			s.done(t)
		}
		if s.crashes == 0 {
			continue
		}
		for _, p := range s.run.crashes() {
			twin := s.copied()
			twin.pick(t, p)
			todo = append(todo, state{twin, s.crashes - 1})
		}
		// What the copies have been through the first one has not seen.
		alike(t, s.e, s.m)
	}
	return len(seen)
}

func begin(set ...int) api.Op { return api.Op{Kind: api.OpBegin, Set: set} }
func read(b int) api.Op       { return api.Op{Kind: api.OpRead, Block: b} }
func commit() api.Op          { return api.Op{Kind: api.OpCommit} }
func abort() api.Op           { return api.Op{Kind: api.OpAbort} }

// write tells the operation that fills a block with a byte.
func write(b int, n byte) api.Op {
	return api.Op{Kind: api.OpWrite, Block: b, Value: filled(n)}
}

// filled tells a value whose bytes all are one.
func filled(n byte) api.Value {
	var v api.Value
	for i := range v {
		v[i] = n
	}
	return v
}

// TestAllWays goes through all that can happen in small worlds, pick by pick.
func TestAllWays(t *testing.T) {
	for _, w := range []struct {
		c        api.Config
		crashes  int
		programs [][]api.Op
	}{
		{config(1, 2, 1, 1, 1), 4, [][]api.Op{{begin(0), write(0, 1), commit(), begin(0), read(0), write(0, 2), commit()}}},
		{config(2, 4, 2, 4, 1), 3, [][]api.Op{{begin(1), write(1, 7), commit(), begin(0, 1), read(1), write(0, 8), write(1, 9), commit()}}},
		{config(1, 2, 1, 2, 2), 2, [][]api.Op{{begin(0), read(0), write(0, 1), commit()}, {begin(0), read(0), write(0, 2), commit()}}},
		{config(2, 3, 1, 3, 2), 1, [][]api.Op{{begin(0), write(0, 1), commit()}, {begin(1), write(1, 2), commit()}}},
		{config(2, 3, 2, 2, 2), 2, [][]api.Op{{begin(1, 0), write(1, 1), write(0, 2), commit()}, {begin(0), read(0), read(1), write(0, 3), commit()}}},
		{config(2, 4, 2, 3, 3), 1, [][]api.Op{{begin(0), write(0, 1), commit()}, {begin(0, 1), write(0, 2), abort()}, {begin(0), read(0), write(0, 3)}}},
		{config(1, 3, 1, 2, 2), 1, [][]api.Op{{begin(0), begin(0), write(0, 1)}, {begin(), read(0), begin(0), write(0, 2), commit(), commit()}}},
	} {
		t.Run(fmt.Sprint(w.c), func(t *testing.T) {
			t.Parallel()
			n := allWays(t, started(t, w.c, w.programs), w.crashes)
			t.Logf("%d states", n)
		})
	}
}
