package engine

import (
	"wicket/admit"
	"wicket/api"
	"wicket/cache"
	"wicket/group"
	"wicket/lock"
	"wicket/point"
	"wicket/sector"
	"wicket/txn"
	"wicket/wal"
)

// memory is what a crash takes away. The empty one has no machines: of none of its parts any step can be done, and all that they tell is nothing.
type memory struct {
	log   *wal.Log
	line  *admit.Line
	locks *lock.Locks
	cache *cache.Cache
	txns  []*txn.Txn // by client
	group *group.Group
	point *point.Point
}

// idle tells the memory of a life that begins. None of its parts is refused: the disk is one of the configuration, and neither the tail nor the life is beyond what may be.
func idle(d *sector.Disk, c api.Config, tail, life uint64) memory {
	m := memory{txns: make([]*txn.Txn, c.Clients), group: group.New(), point: point.New()}
	m.log, _ = wal.Open(d, c, tail, life)
	m.line, _ = admit.New(c)
	m.locks, _ = lock.New(c.Blocks)
	m.cache, _ = cache.New(c.Blocks)
	for n := range m.txns {
		m.txns[n], _ = txn.New(n)
	}
	return m
}

// over tells another memory with the same, over another disk.
func (m memory) over(d *sector.Disk) memory {
	twin := memory{
		log:   m.log.Over(d),
		line:  m.line.Copy(),
		locks: m.locks.Copy(),
		cache: m.cache.Copy(),
		txns:  make([]*txn.Txn, len(m.txns)),
		group: m.group.Copy(),
		point: m.point.Copy(),
	}
	for n, t := range m.txns {
		twin.txns[n] = t.Copy()
	}
	return twin
}

// txn tells a client's transaction: nil, which is in None, if the memory is empty.
func (m memory) txn(client int) *txn.Txn {
	if client >= len(m.txns) {
		return nil
	}
	return m.txns[client]
}
