package engine

import (
	"wicket/api"
	"wicket/group"
	"wicket/point"
	"wicket/txn"
)

// Whose numbers stand behind those of the clients, in this order.
const (
	daemonAt = iota
	checkpointerAt
	recoveryAt
	helpers // how many these are
)

// actor is whoever a pick may name.
type actor interface {
	enabled() bool              // whether its step would change something
	step() (api.Row, api.Errno) // an error, if it is not enabled: nothing has changed then; Actor and Life are the pick's to fill in
}

// client is one of the clients.
type client struct {
	engine *Engine
	number int
}

// daemon writes what is to be committed.
type daemon struct{ engine *Engine }

// checkpointer carries home what has been committed.
type checkpointer struct{ engine *Engine }

// recovery makes the next life begin.
type recovery struct{ engine *Engine }

// nobody has all other numbers.
type nobody struct{}

// actorOf tells who has a number. (While a recovery is under way the others have no machines, and else recovery has none: so each of them is refused then.)
func (e *Engine) actorOf(n int) actor {
	clients := e.config.Clients
	switch {
	case n >= 0 && n < clients:
		return client{engine: e, number: n}
	case n == clients+daemonAt:
		return daemon{e}
	case n == clients+checkpointerAt:
		return checkpointer{e}
	case n == clients+recoveryAt:
		return recovery{e}
	}
	return nobody{}
}

func (c client) enabled() bool {
	return c.txn().Enabled(c.desk(), c.next() != nil)
}

func (c client) step() (api.Row, api.Errno) {
	row, used, no := c.txn().Step(c.desk(), c.next())
	if used {
		c.engine.places[c.number]++
	}
	if row.Kind == api.RowRequested {
		// It is not refused: who stands in the daemon's line already is Committing, and does no step.
		c.engine.memory.group.Ask(c.number)
	}
	return row, no
}

// txn tells the client's transaction.
func (c client) txn() *txn.Txn {
	return c.engine.memory.txn(c.number)
}

// next tells the client's next operation: nil, if there is none.
func (c client) next() *api.Op {
	program, place := c.engine.programs[c.number], c.engine.places[c.number]
	if place == len(program) {
		return nil
	}
	return &program[place]
}

// desk tells what the client's steps work on.
func (c client) desk() txn.Desk {
	m := c.engine.memory
	return txn.Desk{Line: m.line, Locks: m.locks, Read: c.engine.stored}
}

func (d daemon) enabled() bool {
	return d.engine.memory.group.Enabled()
}

func (d daemon) step() (api.Row, api.Errno) {
	m := d.engine.memory
	return m.group.Step(group.Desk{Log: m.log, Line: m.line, Locks: m.locks, Cache: m.cache, Txns: m.txns})
}

func (c checkpointer) enabled() bool {
	return c.engine.memory.point.Enabled(c.desk())
}

func (c checkpointer) step() (api.Row, api.Errno) {
	return c.engine.memory.point.Step(c.desk())
}

// desk tells what the checkpointer's steps work on.
func (c checkpointer) desk() point.Desk {
	e := c.engine
	return point.Desk{Config: e.config, Disk: e.disk, Log: e.memory.log, Line: e.memory.line, Cache: e.memory.cache}
}

func (r recovery) enabled() bool {
	return r.engine.recovery != nil
}

func (r recovery) step() (api.Row, api.Errno) {
	e := r.engine
	row, no := e.recovery.Step()
	switch row.Kind {
	case api.RowScanned:
		// The superblock may say another life than the crash's row: one that was marked, and never began.
		s, _ := superOf(e.disk)
		e.life = s.Life
	case api.RowLives:
		tail, life, _ := e.recovery.Result()
		e.live(tail, life)
	}
	return row, no
}

func (nobody) enabled() bool { return false }

func (nobody) step() (api.Row, api.Errno) { return api.Row{}, api.ErrIdle }
