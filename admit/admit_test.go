package admit_test

import (
	"fmt"
	"math"
	"slices"
	"testing"

	"wicket/admit"
	"wicket/api"
	"wicket/blocks"
)

// most is the greatest number that a ticket may be asked as.
const most uint64 = math.MaxUint64

// chance tells numbers that look like chance and are the same in each run.
type chance uint64

func (c *chance) next() uint64 {
	*c ^= *c << 13
	*c ^= *c >> 7
	*c ^= *c << 17
	return uint64(*c)
}

// below tells one of 0 to n - 1.
func (c *chance) below(n int) int {
	return int(c.next() % uint64(n))
}

// Where a transaction of the model is.
const (
	stands = iota
	entered
	gone
)

// tx is a transaction that ever took a ticket; its ticket is its place in the model's list and 1.
type tx struct {
	form    []int
	where   int
	images  int
	commits int
}

// model is a line by another hand: all that ever took a ticket, and how many slots have been freed.
type model struct {
	c     api.Config
	txs   []tx
	freed int
}

// at tells the transaction of a ticket; nil: it never came.
func (m *model) at(ticket uint64) *tx {
	if ticket < 1 || ticket > uint64(len(m.txs)) {
		return nil
	}
	return &m.txs[ticket-1]
}

// those tells the tickets of all that are at one place, rising.
func (m *model) those(where int) []uint64 {
	var tickets []uint64
	for i, x := range m.txs {
		if x.where == where {
			tickets = append(tickets, uint64(i+1))
		}
	}
	return tickets
}

func (m *model) used() int {
	n := -m.freed
	for _, x := range m.txs {
		n += x.images + x.commits
	}
	return n
}

func (m *model) reserved() int {
	n := 0
	for _, x := range m.txs {
		if x.where == entered {
			n += len(x.form) + 1 - x.images
		}
	}
	return n
}

func (m *model) left(ticket uint64) (int, bool) {
	x := m.at(ticket)
	if x == nil || x.where != entered {
		return 0, false
	}
	return len(x.form) + 1 - x.images, true
}

func (m *model) first() (uint64, []int, bool) {
	line := m.those(stands)
	if len(line) == 0 {
		return 0, nil, false
	}
	return line[0], m.at(line[0]).form, true
}

func (m *model) fits() bool {
	_, form, ok := m.first()
	return ok && m.used()+m.reserved()+len(form)+1 <= m.c.LogCap
}

// begin goes by the words of W5.
func (m *model) begin(set []int) (uint64, []int, api.Errno) {
	var form []int
	for b := range m.c.Blocks {
		if slices.Contains(set, b) {
			form = append(form, b)
		}
	}
	outside := slices.ContainsFunc(set, func(b int) bool { return !slices.Contains(form, b) })
	switch {
	case len(set) == 0:
		return 0, nil, api.ErrEmpty
	case outside:
		return 0, nil, api.ErrBlock
	case len(form) > m.c.MaxRes:
		return 0, nil, api.ErrMany
	}
	m.txs = append(m.txs, tx{form: form})
	return uint64(len(m.txs)), form, api.OK
}

func (m *model) enter() (uint64, []int, api.Errno) {
	t, form, ok := m.first()
	if !ok {
		return 0, nil, api.ErrTicket
	}
	if !m.fits() {
		return 0, nil, api.ErrRoom
	}
	m.at(t).where = entered
	return t, form, api.OK
}

func (m *model) append(ticket uint64) api.Errno {
	left, in := m.left(ticket)
	if !in {
		return api.ErrTicket
	}
	if left == 1 {
		return api.ErrRoom
	}
	m.at(ticket).images++
	return api.OK
}

func (m *model) done(ticket uint64) api.Errno {
	if _, in := m.left(ticket); !in {
		return api.ErrTicket
	}
	m.at(ticket).commits = 1
	m.at(ticket).where = gone
	return api.OK
}

func (m *model) leave(ticket uint64) api.Errno {
	if _, in := m.left(ticket); !in {
		return api.ErrTicket
	}
	if m.at(ticket).images > 0 {
		return api.ErrState
	}
	m.at(ticket).where = gone
	return api.OK
}

func (m *model) release(n int) api.Errno {
	if n < 0 || n > m.used() {
		return api.ErrInput
	}
	m.freed += n
	return api.OK
}

func (m *model) copy() *model {
	return &model{m.c, slices.Clone(m.txs), m.freed}
}

// of makes a line.
func of(t *testing.T, c api.Config) *admit.Line {
	t.Helper()
	l, e := admit.New(c)
	if e != api.OK || l == nil {
		t.Fatalf("New(%+v) = %v, %d", c, l, e)
	}
	return l
}

// sized is a configuration of so many blocks, slots and declared blocks.
func sized(blocks, log, res int) api.Config {
	return api.Config{Blocks: blocks, LogCap: log, MaxRes: res, High: 1, Clients: 1}
}

// is holds an error against another one.
func is(t *testing.T, got, want api.Errno) {
	t.Helper()
	if got != want {
		t.Fatalf("it answers %d, want %d", got, want)
	}
}

// one holds what a call has told of one transaction against what it should.
func one(t *testing.T, call string, got, want uint64, form, wanted []int) {
	t.Helper()
	if got != want || !slices.Equal(form, wanted) {
		t.Fatalf("%s = %d, %v, want %d, %v", call, got, form, want, wanted)
	}
}

// room holds the two numbers of a line against others.
func room(t *testing.T, l *admit.Line, used, reserved int) {
	t.Helper()
	if l.Used() != used || l.Reserved() != reserved {
		t.Fatalf("Used %d, Reserved %d, want %d, %d", l.Used(), l.Reserved(), used, reserved)
	}
}

// lists holds who stands in a line and who is in against others.
func lists(t *testing.T, l *admit.Line, waiting, in []uint64) {
	t.Helper()
	if !slices.Equal(l.Waiting(), waiting) || !slices.Equal(l.In(), in) {
		t.Fatalf("Waiting %v, In %v, want %v, %v", l.Waiting(), l.In(), waiting, in)
	}
}

// leaves holds what is left of a ticket against a number; -1: it is not in.
func leaves(t *testing.T, l *admit.Line, ticket uint64, want int) {
	t.Helper()
	n, ok := l.Left(ticket)
	if n != max(want, 0) || ok != (want >= 0) {
		t.Fatalf("Left(%d) = %d, %v, want %d", ticket, n, ok, want)
	}
}

// tells holds all that a line tells against its model: for each ticket that ever came, and some that did not.
func tells(t *testing.T, l *admit.Line, m *model) {
	t.Helper()
	room(t, l, m.used(), m.reserved())
	lists(t, l, m.those(stands), m.those(entered))
	n, form, ok := l.First()
	want, wanted, has := m.first()
	one(t, "First", n, want, form, wanted)
	if ok != has || l.Fits() != m.fits() {
		t.Fatalf("First %v, Fits %v, want %v, %v: %+v", ok, l.Fits(), has, m.fits(), *m)
	}
	for _, ticket := range []uint64{0, 1 << 62, 1 << 63, most} {
		leaves(t, l, ticket, -1)
	}
	for ticket := range uint64(len(m.txs) + 2) {
		want := -1
		if n, in := m.left(ticket); in {
			want = n
		}
		leaves(t, l, ticket, want)
	}
	holds(t, l, m.c)
}

// holds asks for what 13.9, 13.10 and 13.11 say of every line.
func holds(t *testing.T, l *admit.Line, c api.Config) {
	t.Helper()
	if l.Used() < 0 || l.Reserved() < 0 || l.Used()+l.Reserved() > c.LogCap {
		t.Fatalf("Used %d, Reserved %d of %d", l.Used(), l.Reserved(), c.LogCap)
	}
	in, line := l.In(), l.Waiting()
	if !rising(append(in, line...)) {
		t.Fatalf("in are %v, in the line stand %v", in, line)
	}
	if len(in) == 0 && l.Used() == 0 && len(line) > 0 && !l.Fits() {
		t.Fatal("nobody is in, nothing is used, and the first one does not fit")
	}
}

// rising tells whether each ticket of a list is above the one ahead of it.
func rising(tickets []uint64) bool {
	last := uint64(0)
	for _, n := range tickets {
		if n <= last {
			return false
		}
		last = n
	}
	return true
}

// pair is a line beside its model: each call is done with both.
type pair struct {
	t *testing.T
	l *admit.Line
	m *model
}

func paired(t *testing.T, c api.Config) *pair {
	t.Helper()
	return &pair{t, of(t, c), &model{c: c}}
}

func (p *pair) copy() *pair {
	return &pair{p.t, p.l.Copy(), p.m.copy()}
}

func (p *pair) tells() {
	p.t.Helper()
	tells(p.t, p.l, p.m)
}

// nextIs holds the ticket that comes next against the model's.
func (p *pair) nextIs() {
	p.t.Helper()
	n, form, e := p.l.Copy().Begin([]int{0})
	is(p.t, e, api.OK)
	one(p.t, "Begin", n, uint64(len(p.m.txs)+1), form, []int{0})
}

// answers holds two answers of one call against each other, and the line against its model behind it. It tells whether the call was taken.
func (p *pair) answers(call string, got, want api.Errno) bool {
	p.t.Helper()
	if got != want {
		p.t.Fatalf("%s = %d, want %d: %+v", call, got, want, *p.m)
	}
	p.tells()
	if got != api.OK {
		p.nextIs()
	}
	return got == api.OK
}

func (p *pair) begin(set ...int) bool {
	p.t.Helper()
	n, form, e := p.l.Begin(set)
	want, wanted, f := p.m.begin(set)
	one(p.t, "Begin", n, want, form, wanted)
	return p.answers("Begin", e, f)
}

func (p *pair) enter() bool {
	p.t.Helper()
	n, form, e := p.l.Enter()
	want, wanted, f := p.m.enter()
	one(p.t, "Enter", n, want, form, wanted)
	return p.answers("Enter", e, f)
}

// never holds the two numbers together against what they were ahead of a call.
func (p *pair) never(call string, before int) {
	p.t.Helper()
	if sum := p.l.Used() + p.l.Reserved(); sum > before {
		p.t.Fatalf("%s makes of the sum %d a sum of %d", call, before, sum)
	}
}

func (p *pair) append(ticket uint64) bool {
	p.t.Helper()
	defer p.never("Append", p.l.Used()+p.l.Reserved())
	return p.answers("Append", p.l.Append(ticket), p.m.append(ticket))
}

func (p *pair) done(ticket uint64) bool {
	p.t.Helper()
	defer p.never("Done", p.l.Used()+p.l.Reserved())
	return p.answers("Done", p.l.Done(ticket), p.m.done(ticket))
}

func (p *pair) leave(ticket uint64) bool {
	p.t.Helper()
	defer p.never("Leave", p.l.Used()+p.l.Reserved())
	return p.answers("Leave", p.l.Leave(ticket), p.m.leave(ticket))
}

func (p *pair) free(n int) bool {
	p.t.Helper()
	defer p.never("Freed", p.l.Used()+p.l.Reserved())
	return p.answers("Freed", p.l.Freed(n), p.m.release(n))
}

// goes asks that all calls of a list are taken.
func (p *pair) goes(taken ...bool) {
	p.t.Helper()
	if slices.Contains(taken, false) {
		p.t.Fatalf("call %d was refused: %+v", slices.Index(taken, false), *p.m)
	}
}

// mayBe goes by the words that say what a configuration may be.
func mayBe(c api.Config) bool {
	return 1 <= c.Blocks && c.Blocks <= 64 && 2 <= c.LogCap && c.LogCap <= 64 &&
		1 <= c.MaxRes && c.MaxRes <= 16 && c.MaxRes <= c.Blocks && c.MaxRes < c.LogCap &&
		1 <= c.High && c.High <= c.LogCap && 1 <= c.Clients && c.Clients <= 8
}

// news holds New against the words.
func news(t *testing.T, c api.Config) {
	t.Helper()
	l, e := admit.New(c)
	if !mayBe(c) {
		if e != api.ErrConfig || l != nil {
			t.Fatalf("New(%+v) = %v, %d, want ErrConfig", c, l, e)
		}
		return
	}
	if e != api.OK || l == nil {
		t.Fatalf("New(%+v) = %v, %d", c, l, e)
	}
	tells(t, l, &model{c: c})
}

func TestP13_1_NewMadeAndRefused(t *testing.T) {
	edges := []int{math.MinInt, -1, 0, 1, 2, 3, 8, 9, 15, 16, 17, 63, 64, 65, math.MaxInt}
	for _, b := range edges {
		for _, l := range edges {
			for _, r := range edges {
				for _, h := range edges {
					for _, c := range edges {
						news(t, api.Config{Blocks: b, LogCap: l, MaxRes: r, High: h, Clients: c})
					}
				}
			}
		}
	}
}

func TestP13_1_NewOnEachEdgeAlone(t *testing.T) {
	for _, c := range []struct {
		name string
		c    api.Config
		want api.Errno
	}{
		{"zeros", api.Config{}, api.ErrConfig},
		{"the least of each", api.Config{Blocks: 1, LogCap: 2, MaxRes: 1, High: 1, Clients: 1}, api.OK},
		{"the greatest of each", api.Config{Blocks: 64, LogCap: 64, MaxRes: 16, High: 64, Clients: 8}, api.OK},
		{"no block", api.Config{Blocks: 0, LogCap: 2, MaxRes: 1, High: 1, Clients: 1}, api.ErrConfig},
		{"one block too many", api.Config{Blocks: 65, LogCap: 64, MaxRes: 16, High: 64, Clients: 8}, api.ErrConfig},
		{"one slot", api.Config{Blocks: 1, LogCap: 1, MaxRes: 1, High: 1, Clients: 1}, api.ErrConfig},
		{"one slot too many", api.Config{Blocks: 64, LogCap: 65, MaxRes: 16, High: 64, Clients: 8}, api.ErrConfig},
		{"nothing declared", api.Config{Blocks: 1, LogCap: 2, MaxRes: 0, High: 1, Clients: 1}, api.ErrConfig},
		{"one declared too many", api.Config{Blocks: 64, LogCap: 64, MaxRes: 17, High: 64, Clients: 8}, api.ErrConfig},
		{"all blocks declared", api.Config{Blocks: 5, LogCap: 64, MaxRes: 5, High: 1, Clients: 1}, api.OK},
		{"more declared than blocks", api.Config{Blocks: 5, LogCap: 64, MaxRes: 6, High: 1, Clients: 1}, api.ErrConfig},
		{"one slot for the commit", api.Config{Blocks: 64, LogCap: 6, MaxRes: 5, High: 1, Clients: 1}, api.OK},
		{"no slot for the commit", api.Config{Blocks: 64, LogCap: 6, MaxRes: 6, High: 1, Clients: 1}, api.ErrConfig},
		{"no mark", api.Config{Blocks: 4, LogCap: 5, MaxRes: 3, High: 0, Clients: 2}, api.ErrConfig},
		{"the mark at the end", api.Config{Blocks: 4, LogCap: 5, MaxRes: 3, High: 5, Clients: 2}, api.OK},
		{"the mark beyond the end", api.Config{Blocks: 4, LogCap: 5, MaxRes: 3, High: 6, Clients: 2}, api.ErrConfig},
		{"no client", api.Config{Blocks: 4, LogCap: 5, MaxRes: 3, High: 5, Clients: 0}, api.ErrConfig},
		{"nine clients", api.Config{Blocks: 4, LogCap: 5, MaxRes: 3, High: 5, Clients: 9}, api.ErrConfig},
	} {
		t.Run(c.name, func(t *testing.T) {
			l, e := admit.New(c.c)
			if e != c.want || (l == nil) != (e != api.OK) {
				t.Errorf("New(%+v) = %v, %d, want %d", c.c, l, e, c.want)
			}
		})
	}
}

func TestP13_1_NewIsEmpty(t *testing.T) {
	l := of(t, sized(64, 64, 16))
	room(t, l, 0, 0)
	lists(t, l, nil, nil)
	if n, form, ok := l.First(); n != 0 || len(form) != 0 || ok || l.Fits() {
		t.Errorf("First = %d, %v, %v, Fits = %v", n, form, ok, l.Fits())
	}
	for _, ticket := range []uint64{0, 1, 2, most} {
		leaves(t, l, ticket, -1)
		is(t, l.Append(ticket), api.ErrTicket)
		is(t, l.Done(ticket), api.ErrTicket)
		is(t, l.Leave(ticket), api.ErrTicket)
	}
	is(t, l.Freed(1), api.ErrInput)
	is(t, l.Freed(0), api.OK)
}

func TestP13_1_LinesOfTheirOwn(t *testing.T) {
	a, b := paired(t, sized(4, 8, 3)), paired(t, sized(4, 8, 3))
	a.goes(a.begin(0, 1), a.enter(), a.append(1))
	b.tells()
	b.goes(b.begin(3), b.begin(2), b.enter(), b.done(1))
	a.tells()
	a.goes(a.begin(1), a.done(1), a.free(2))
	b.tells()
}

func TestP13_2_BeginOnItsEdges(t *testing.T) {
	full := make([]int, 16)
	for i := range full {
		full[i] = 62 - 4*i
	}
	doubled := append(slices.Repeat(full, 3), full[5], full[0])
	for _, c := range []struct {
		name string
		set  []int
		want api.Errno
	}{
		{"nil", nil, api.ErrEmpty},
		{"an empty one", []int{}, api.ErrEmpty},
		{"an empty one with spare room", make([]int, 0, 4), api.ErrEmpty},
		{"one block", []int{7}, api.OK},
		{"a block twice", []int{7, 7}, api.OK},
		{"falling", []int{9, 5, 3, 1}, api.OK},
		{"block 0", []int{0}, api.OK},
		{"the last block", []int{63}, api.OK},
		{"the last and the first", []int{63, 0, 63}, api.OK},
		{"one below 0", []int{-1}, api.ErrBlock},
		{"one below 0 behind others", []int{0, 3, -1}, api.ErrBlock},
		{"the number of blocks", []int{64}, api.ErrBlock},
		{"the number of blocks ahead of others", []int{64, 1, 2}, api.ErrBlock},
		{"the least int", []int{1, math.MinInt}, api.ErrBlock},
		{"the greatest int", []int{1, math.MaxInt, 2}, api.ErrBlock},
		{"just as many as may be", full, api.OK},
		{"as many as may be, each of them more than once", doubled, api.OK},
		{"one more", append(slices.Clone(full), 1), api.ErrMany},
		{"one more, with doubles", append(slices.Clone(doubled), 1), api.ErrMany},
		{"one more, and one that is no block", append(slices.Clone(full), 1, 64), api.ErrBlock},
		{"many numbers of one block", slices.Repeat([]int{5}, 1000), api.OK},
		{"many numbers of a few blocks", slices.Repeat([]int{8, 3, 8, 0}, 500), api.OK},
		{"many numbers that are no blocks", slices.Repeat([]int{-5}, 1000), api.ErrBlock},
	} {
		t.Run(c.name, func(t *testing.T) {
			p := paired(t, sized(64, 64, 16))
			given := slices.Clone(c.set)
			for range 3 {
				if taken := p.begin(c.set...); taken != (c.want == api.OK) {
					t.Fatalf("Begin(%v) is taken: %v", c.set, taken)
				}
				_, _, e := p.l.Copy().Begin(c.set)
				is(t, e, c.want)
				p.begin(1, 2)
			}
			if !slices.Equal(c.set, given) {
				t.Errorf("the set is changed to %v", c.set)
			}
		})
	}
}

func TestP13_2_BeginGoesByTheConfiguration(t *testing.T) {
	for store := 1; store <= api.MaxBlocks; store += 3 {
		for res := 1; res <= min(store, api.MaxRes); res++ {
			p := paired(t, sized(store, 17, res))
			p.goes(p.begin(store-1), p.begin(0, store-1, 0) == (store == 1 || res > 1))
			p.goes(!p.begin(store), !p.begin(-1, 0))
			set := []int{}
			for b := range res + 1 {
				set = append(set, b)
			}
			p.goes(p.begin(set[:res]...), !p.begin(set...))
			_, _, e := p.l.Begin(set)
			if want := api.ErrMany; store > res && e != want || store == res && e != api.ErrBlock {
				t.Fatalf("%d of %d blocks: %d", res+1, store, e)
			}
		}
	}
}

func TestP13_2_BeginAsFormSaysIt(t *testing.T) {
	c := chance(132)
	for range 4000 {
		store := 1 + c.below(api.MaxBlocks)
		res := 1 + c.below(min(store, api.MaxRes))
		l := of(t, sized(store, 17, res))
		set := make([]int, c.below(2*res+2))
		for i := range set {
			set[i] = c.below(store)
			if c.below(60) == 0 {
				set[i] = []int{-1, store, math.MinInt, math.MaxInt}[c.below(4)]
			}
		}
		form, want := blocks.Form(set, store, res)
		n, got, e := l.Begin(set)
		if e != want || !slices.Equal(got, form) || (n == 1) != (e == api.OK) {
			t.Fatalf("Begin(%v) of %d blocks, %d at most, = %d, %v, %d, want %v, %d", set, store, res, n, got, e, form, want)
		}
	}
}

func TestP13_2_BeginWhereTicketsEnd(t *testing.T) {
	// Of the line's tickets only the last one and those beyond it are looked at here.
	l := of(t, sized(4, 8, 2))
	l.SkipTo(api.MaxPos - 1)
	for n := uint64(api.MaxPos - 1); n <= api.MaxPos; n++ {
		got, form, e := l.Begin([]int{3, 1})
		is(t, e, api.OK)
		one(t, "Begin", got, n, form, []int{1, 3})
	}
	for range 3 {
		for _, c := range []struct {
			set  []int
			want api.Errno
		}{
			{[]int{0}, api.ErrWrap}, {[]int{3, 1}, api.ErrWrap}, {nil, api.ErrEmpty}, {[]int{4}, api.ErrBlock}, {[]int{0, 1, 2}, api.ErrMany},
		} {
			n, form, e := l.Begin(c.set)
			is(t, e, c.want)
			one(t, "Begin", n, 0, form, nil)
			lists(t, l, []uint64{api.MaxPos - 1, api.MaxPos}, nil)
		}
	}
	for n := uint64(api.MaxPos - 1); n <= api.MaxPos; n++ {
		got, form, e := l.Enter()
		is(t, e, api.OK)
		one(t, "Enter", got, n, form, []int{1, 3})
		is(t, l.Append(n), api.OK)
		leaves(t, l, n, 2)
	}
	lists(t, l, nil, []uint64{api.MaxPos - 1, api.MaxPos})
	is(t, l.Done(api.MaxPos), api.OK)
	twin := l.Copy()
	for _, l := range []*admit.Line{l, twin} {
		_, _, e := l.Begin([]int{0})
		is(t, e, api.ErrWrap)
	}
}

func TestP13_3_FirstAndFits(t *testing.T) {
	p := paired(t, sized(8, 9, 4))
	fits := func(want bool) {
		t.Helper()
		if p.l.Fits() != want {
			t.Fatalf("Fits = %v, Used %d, Reserved %d", !want, p.l.Used(), p.l.Reserved())
		}
	}
	fits(false)
	p.goes(p.begin(0), p.begin(1, 2, 3, 4), p.begin(5), p.begin(6, 7, 5))
	fits(true)
	p.goes(p.enter(), p.enter()) // 2 and 5 are reserved: two are free
	fits(true)                   // it just fits
	p.goes(p.append(2), p.append(2))
	fits(true)
	p.goes(p.done(1)) // of 1 one is used, and one was left: three are free
	fits(true)
	p.goes(p.enter()) // one is free, and four are asked for
	fits(false)
	p.goes(p.leave(3))
	fits(false) // one too many: three are free
	p.goes(p.free(1))
	fits(true) // it just fits
	n, form, ok := p.l.First()
	one(t, "First", n, 4, form, []int{5, 6, 7})
	p.goes(ok, p.enter())
	fits(false) // nobody stands there
	room(t, p.l, 2, 7)
}

func TestP13_3_FitsJustUpToTheEnd(t *testing.T) {
	for log := 2; log <= 24; log++ {
		for res := 1; res < min(log, 17); res++ {
			for used := 0; used <= log-2; used++ {
				p := &pair{t, of(t, sized(16, log, min(16, log-1))), nil}
				for n := range uint64(used) {
					p.l.Begin([]int{0})
					p.l.Enter()
					is(t, p.l.Done(n+1), api.OK)
				}
				set := []int{}
				for b := range res {
					set = append(set, b)
				}
				p.l.Begin(set)
				want := used+res+1 <= log
				if p.l.Fits() != want {
					t.Fatalf("Fits = %v: %d used of %d, %d and 1 asked for", !want, used, log, res)
				}
				n, _, e := p.l.Enter()
				if want {
					is(t, e, api.OK)
					room(t, p.l, used, res+1)
				} else {
					is(t, e, api.ErrRoom)
					one(t, "Enter", n, 0, nil, nil)
					room(t, p.l, used, 0)
				}
			}
		}
	}
}

func TestP13_3_AskingChangesNothing(t *testing.T) {
	p := paired(t, sized(4, 6, 3))
	p.goes(p.begin(1, 3), p.enter(), p.append(1), p.begin(2), p.begin(0, 1, 2))
	for range 4 {
		p.l.First()
		p.l.Fits()
		p.l.Used()
		p.l.Reserved()
		p.l.Left(1)
		p.l.Waiting()
		p.l.In()
		p.l.Copy()
		p.tells()
		p.nextIs()
	}
}

func TestP13_4_EnterWhereNobodyStands(t *testing.T) {
	p := paired(t, sized(4, 6, 3))
	refused := func() {
		t.Helper()
		n, form, e := p.l.Enter()
		is(t, e, api.ErrTicket)
		one(t, "Enter", n, 0, form, nil)
		p.tells()
		p.nextIs()
	}
	refused()
	p.goes(p.begin(0, 1, 2), p.enter())
	refused()
	// Also where no room at all is left.
	p.goes(p.begin(3), p.enter())
	refused()
	p.goes(p.done(1), p.done(2), p.free(2))
	refused()
}

func TestP13_4_EnterOnlyTheFirst(t *testing.T) {
	p := paired(t, sized(4, 6, 3))
	p.goes(p.begin(0, 1), p.enter(), p.begin(1, 2, 3), p.begin(0))
	// The first one needs four where three are free; the one behind it needs two.
	for range 3 {
		n, form, e := p.l.Enter()
		is(t, e, api.ErrRoom)
		one(t, "Enter", n, 0, form, nil)
		p.tells()
		p.nextIs()
	}
	p.goes(p.leave(1), p.enter(), p.enter())
	lists(t, p.l, nil, []uint64{2, 3})
}

func TestP13_4_EnterBehindWhatMakesRoom(t *testing.T) {
	for _, c := range []struct {
		name  string
		make  func(p *pair) bool
		enter bool
	}{
		{"Leave", func(p *pair) bool { return p.leave(2) }, true},
		{"Done, with images left", func(p *pair) bool { return p.done(2) }, true},
		{"Done, with none left", func(p *pair) bool { return p.append(2) && p.append(2) && p.done(2) }, false},
		{"Done, with one left", func(p *pair) bool { return p.append(2) && p.done(2) }, false},
		{"Append", func(p *pair) bool { return p.append(2) }, false},
		{"Freed of one", func(p *pair) bool { return p.free(1) }, false},
		{"Freed of two", func(p *pair) bool { return p.free(2) }, true},
		{"Freed of one, and Done with one left", func(p *pair) bool { return p.free(1) && p.append(2) && p.done(2) }, true},
	} {
		t.Run(c.name, func(t *testing.T) {
			// Two are used and three reserved, two are free; four are asked for.
			p := paired(t, sized(4, 7, 3))
			p.goes(p.begin(1), p.enter(), p.append(1), p.done(1), p.begin(0, 2), p.enter(), p.begin(1, 2, 3))
			room(t, p.l, 2, 3)
			p.goes(!p.l.Fits(), !p.enter(), c.make(p))
			if p.l.Fits() != c.enter || p.enter() != c.enter {
				t.Fatalf("Fits, Enter: not %v", c.enter)
			}
			if c.enter {
				leaves(t, p.l, 3, 4)
			}
		})
	}
}

// every is a line with tickets of each kind: 1 is done, 2 has left, 3 is in with all left, 4 in with 2 of 3 left, 5 in with 1 left, 6 and 7 stand there; 8 never came.
func every(t *testing.T) *pair {
	t.Helper()
	p := paired(t, sized(6, 16, 4))
	for range 5 {
		p.goes(p.begin(4, 2), p.enter())
	}
	p.goes(p.begin(0, 1, 2, 3), p.begin(5))
	p.goes(p.append(1), p.done(1), p.leave(2), p.append(4), p.append(5), p.append(5))
	room(t, p.l, 5, 6)
	lists(t, p.l, []uint64{6, 7}, []uint64{3, 4, 5})
	return p
}

func TestP13_5_AppendOfEachTicket(t *testing.T) {
	for _, c := range []struct {
		name   string
		ticket uint64
		want   api.Errno
		left   int
	}{
		{"0", 0, api.ErrTicket, -1},
		{"done", 1, api.ErrTicket, -1},
		{"left", 2, api.ErrTicket, -1},
		{"in, all left", 3, api.OK, 2},
		{"in, 2 left", 4, api.OK, 1},
		{"in, 1 left", 5, api.ErrRoom, 1},
		{"first in the line", 6, api.ErrTicket, -1},
		{"second in the line", 7, api.ErrTicket, -1},
		{"never came", 8, api.ErrTicket, -1},
		{"the greatest", most, api.ErrTicket, -1},
	} {
		t.Run(c.name, func(t *testing.T) {
			p := every(t)
			is(t, p.l.Copy().Append(c.ticket), c.want)
			p.append(c.ticket)
			leaves(t, p.l, c.ticket, c.left)
			if c.want == api.OK {
				room(t, p.l, 6, 5)
			} else {
				room(t, p.l, 5, 6)
			}
		})
	}
}

func TestP13_5_DoneOfEachTicket(t *testing.T) {
	for _, c := range []struct {
		name     string
		ticket   uint64
		want     api.Errno
		reserved int
	}{
		{"0", 0, api.ErrTicket, 6},
		{"done", 1, api.ErrTicket, 6},
		{"left", 2, api.ErrTicket, 6},
		{"in, all left", 3, api.OK, 3},
		{"in, 2 left", 4, api.OK, 4},
		{"in, 1 left", 5, api.OK, 5},
		{"first in the line", 6, api.ErrTicket, 6},
		{"second in the line", 7, api.ErrTicket, 6},
		{"never came", 8, api.ErrTicket, 6},
		{"the greatest", most, api.ErrTicket, 6},
	} {
		t.Run(c.name, func(t *testing.T) {
			p := every(t)
			is(t, p.l.Copy().Done(c.ticket), c.want)
			p.done(c.ticket)
			leaves(t, p.l, c.ticket, -1)
			if c.want == api.OK {
				room(t, p.l, 6, c.reserved)
			} else {
				room(t, p.l, 5, c.reserved)
			}
			is(t, p.l.Done(c.ticket), api.ErrTicket)
			is(t, p.l.Append(c.ticket), api.ErrTicket)
			is(t, p.l.Leave(c.ticket), api.ErrTicket)
			p.tells()
		})
	}
}

func TestP13_5_AsManyImagesAsBlocks(t *testing.T) {
	for res := 1; res <= api.MaxRes; res++ {
		p := paired(t, sized(16, 20, 16))
		set := []int{}
		for b := range res {
			set = append(set, 15-b)
		}
		p.goes(p.begin(set...), p.enter(), p.begin(0), p.enter())
		for n := range res {
			leaves(t, p.l, 1, res+1-n)
			p.goes(p.append(1))
			is(t, p.l.Leave(1), api.ErrState)
		}
		for range 3 {
			is(t, p.l.Append(1), api.ErrRoom)
			leaves(t, p.l, 1, 1)
		}
		// That there is room beside it does not help.
		p.goes(p.free(res), !p.append(1), p.done(1))
		room(t, p.l, 1, 2)
		leaves(t, p.l, 2, 2)
	}
}

func TestP13_5_AppendAndDoneInAFullLog(t *testing.T) {
	p := paired(t, sized(4, 4, 1))
	p.goes(p.begin(0), p.begin(0), p.enter(), p.enter())
	room(t, p.l, 0, 4)
	p.goes(p.append(2), p.append(1), p.done(1), p.done(2))
	room(t, p.l, 4, 0)
	p.goes(p.begin(3), !p.enter(), p.free(1), !p.enter(), p.free(1), p.enter())
	room(t, p.l, 2, 2)
}

func TestP13_6_LeaveOfEachTicket(t *testing.T) {
	for _, c := range []struct {
		name   string
		ticket uint64
		want   api.Errno
		left   int
	}{
		{"0", 0, api.ErrTicket, -1},
		{"done", 1, api.ErrTicket, -1},
		{"left", 2, api.ErrTicket, -1},
		{"in, all left", 3, api.OK, -1},
		{"in, 2 left", 4, api.ErrState, 2},
		{"in, 1 left", 5, api.ErrState, 1},
		{"first in the line", 6, api.ErrTicket, -1},
		{"second in the line", 7, api.ErrTicket, -1},
		{"never came", 8, api.ErrTicket, -1},
		{"the greatest", most, api.ErrTicket, -1},
	} {
		t.Run(c.name, func(t *testing.T) {
			p := every(t)
			is(t, p.l.Copy().Leave(c.ticket), c.want)
			p.leave(c.ticket)
			leaves(t, p.l, c.ticket, c.left)
			if c.want == api.OK {
				room(t, p.l, 5, 3)
				lists(t, p.l, []uint64{6, 7}, []uint64{4, 5})
				is(t, p.l.Leave(c.ticket), api.ErrTicket)
				is(t, p.l.Append(c.ticket), api.ErrTicket)
				is(t, p.l.Done(c.ticket), api.ErrTicket)
			} else {
				room(t, p.l, 5, 6)
			}
			p.tells()
		})
	}
}

func TestP13_6_LeaveBehindAnAppendThatIsFreed(t *testing.T) {
	// That its image's slot is free again does not undo the Append.
	p := paired(t, sized(4, 6, 3))
	p.goes(p.begin(0, 1), p.enter(), p.append(1), p.free(1))
	is(t, p.l.Leave(1), api.ErrState)
	p.tells()
	// And an Append that was refused, or of another one, counts for nothing.
	q := paired(t, sized(4, 6, 3))
	q.goes(q.begin(0), q.begin(0), q.enter(), q.enter(), q.append(1), !q.append(1), !q.append(3), q.leave(2), !q.leave(1))
}

func TestP13_7_Freed(t *testing.T) {
	for _, n := range []int{math.MinInt, math.MinInt + 1, -64, -4, -1, 0, 1, 2, 3, 4, 5, 6, 9, 64, math.MaxInt - 1, math.MaxInt} {
		p := paired(t, sized(4, 9, 3))
		p.goes(p.begin(0, 1, 2), p.enter(), p.append(1), p.append(1), p.append(1), p.done(1))
		p.goes(p.begin(2), p.enter())
		room(t, p.l, 4, 2)
		if n < 0 || n > 4 {
			is(t, p.l.Freed(n), api.ErrInput)
			p.tells()
			p.nextIs()
			continue
		}
		is(t, p.l.Freed(n), api.OK)
		room(t, p.l, 4-n, 2)
		is(t, p.l.Freed(5-n), api.ErrInput)
		room(t, p.l, 4-n, 2)
		is(t, p.l.Freed(4-n), api.OK)
		room(t, p.l, 0, 2)
	}
}

func TestP13_7_FreedOfNothingUsed(t *testing.T) {
	p := paired(t, sized(4, 4, 2))
	for range 2 {
		is(t, p.l.Freed(0), api.OK)
		for _, n := range []int{1, 2, 4, -1, math.MinInt, math.MaxInt} {
			is(t, p.l.Freed(n), api.ErrInput)
			p.tells()
		}
		p.begin(0, 1) // what is reserved is not used
		p.enter()
	}
}

func TestP13_8_LeftOfEachTicket(t *testing.T) {
	p := every(t)
	for ticket, want := range []int{-1, -1, -1, 3, 2, 1, -1, -1, -1, -1} {
		leaves(t, p.l, uint64(ticket), want)
	}
	leaves(t, p.l, most, -1)
}

func TestP13_8_InRisesWhoeverGoes(t *testing.T) {
	p := paired(t, sized(2, 64, 1))
	for range 32 {
		p.goes(p.begin(0), p.enter())
	}
	c := chance(8)
	for len(p.l.In()) > 0 {
		in := p.l.In()
		ticket := in[c.below(len(in))]
		if c.below(2) == 0 {
			p.goes(p.leave(ticket))
		} else {
			p.goes(p.done(ticket))
		}
	}
	lists(t, p.l, nil, nil)
}

func TestP13_8_CopiesAndTheFirstLineDoNotMeet(t *testing.T) {
	changes := []struct {
		name string
		do   func(p *pair)
	}{
		{"nothing", func(*pair) {}},
		{"begun", func(p *pair) { p.goes(p.begin(3)) }},
		{"begun another one", func(p *pair) { p.goes(p.begin(0, 5), p.begin(1)) }},
		{"refused", func(p *pair) { p.goes(!p.begin(), !p.begin(6), !p.done(6)) }},
		{"entered", func(p *pair) { p.goes(p.enter()) }},
		{"entered all", func(p *pair) { p.goes(p.leave(3), p.enter(), p.enter()) }},
		{"appended", func(p *pair) { p.goes(p.append(4)) }},
		{"appended all", func(p *pair) { p.goes(p.append(3), p.append(4), p.append(3), !p.append(3)) }},
		{"done", func(p *pair) { p.goes(p.done(5)) }},
		{"done all", func(p *pair) { p.goes(p.done(4), p.done(3), p.done(5)) }},
		{"left", func(p *pair) { p.goes(p.leave(3)) }},
		{"freed", func(p *pair) { p.goes(p.free(2)) }},
		{"freed all", func(p *pair) { p.goes(p.free(5)) }},
		{"emptied and begun anew", func(p *pair) {
			p.goes(p.leave(3), p.done(4), p.done(5), p.free(7), p.enter(), p.enter(), p.done(6), p.leave(7), p.begin(2), p.enter())
		}},
	}
	for _, a := range changes {
		for _, b := range changes {
			t.Run(a.name+", "+b.name, func(t *testing.T) {
				first := every(t)
				twin := first.copy()
				twin.tells()
				a.do(first)
				twin.tells()
				twin.nextIs()
				b.do(twin)
				first.tells()
				first.nextIs()
				twin.tells()
			})
		}
	}
}

func TestP13_8_ACopyOfACopy(t *testing.T) {
	a := paired(t, sized(4, 8, 3))
	a.goes(a.begin(0, 1), a.begin(2), a.enter())
	b := a.copy()
	b.goes(b.append(1), b.enter(), b.begin(3))
	c := b.copy()
	c.tells()
	c.goes(c.done(1), c.leave(2), c.begin(0), c.enter(), c.enter())
	a.goes(a.leave(1), a.begin(0, 1, 2))
	b.goes(b.free(1), b.done(2))
	a.tells()
	b.tells()
	c.tells()
	lists(t, a.l, []uint64{2, 3}, nil)
	lists(t, b.l, []uint64{3}, []uint64{1})
	lists(t, c.l, nil, []uint64{3, 4})
}

func TestP13_8_ACopyHasTheConfiguration(t *testing.T) {
	for log := 2; log <= api.MaxLog; log += 7 {
		for res := 1; res <= min(log-1, 8); res++ {
			p := paired(t, sized(8, log, res)).copy()
			p.goes(!p.begin(8), p.begin(7))
			for range log {
				p.begin(0, 1, 2, 3, 4, 5, 6, 7)
				p.begin(0)
				p.enter()
			}
		}
	}
}

func TestP13_8_NilInEveryCall(t *testing.T) {
	var l *admit.Line
	for range 2 {
		for _, set := range [][]int{nil, {}, {0}, {0, 1}, {-1}, {64}, {math.MinInt, math.MaxInt}, slices.Repeat([]int{3}, 40)} {
			n, form, e := l.Begin(set)
			is(t, e, api.ErrHandle)
			one(t, "Begin", n, 0, form, nil)
		}
		n, form, e := l.Enter()
		is(t, e, api.ErrHandle)
		one(t, "Enter", n, 0, form, nil)
		n, form, ok := l.First()
		one(t, "First", n, 0, form, nil)
		if ok || l.Fits() {
			t.Errorf("of a nil line: First %v, Fits %v", ok, l.Fits())
		}
		for _, ticket := range []uint64{0, 1, 2, most} {
			is(t, l.Append(ticket), api.ErrHandle)
			is(t, l.Done(ticket), api.ErrHandle)
			is(t, l.Leave(ticket), api.ErrHandle)
			leaves(t, l, ticket, -1)
		}
		for _, n := range []int{math.MinInt, -1, 0, 1, 64, math.MaxInt} {
			is(t, l.Freed(n), api.ErrHandle)
		}
		room(t, l, 0, 0)
		lists(t, l, nil, nil)
		if l.Copy() != nil {
			t.Error("a copy of a nil line is not nil")
		}
	}
}

// call does one of thirteen calls.
func (p *pair) call(n int) bool {
	p.t.Helper()
	switch n {
	case 0:
		return p.begin(1)
	case 1:
		return p.begin(1, 0, 1)
	case 2:
		return p.begin(2, 1, 0)
	case 3:
		return p.enter()
	case 4, 5, 6:
		return p.append(uint64(n - 3))
	case 7, 8:
		return p.done(uint64(n - 6))
	case 9, 10:
		return p.leave(uint64(n - 8))
	}
	return p.free(n - 10)
}

// tries does all runs of so many calls that are taken, each on a copy of what stands behind the calls ahead of it; and behind each of them all that are refused. It tells how many there were.
func (p *pair) tries(calls int) int {
	p.t.Helper()
	if calls == 0 {
		return 1
	}
	tried := 1
	for n := range 13 {
		twin := p.copy()
		if twin.call(n) {
			tried += twin.tries(calls - 1)
		}
	}
	p.tells()
	return tried
}

func TestP13_9_AllShortRuns(t *testing.T) {
	if n := paired(t, sized(3, 4, 2)).tries(8); n < 30000 {
		t.Errorf("only %d runs were tried", n)
	}
}

func TestP13_9_AllShortRunsWithoutCopies(t *testing.T) {
	for n := range 13 * 13 * 13 * 13 {
		p := paired(t, sized(3, 4, 2))
		p.goes(p.begin(2), p.enter())
		for range 4 {
			p.call(n % 13)
			n /= 13
		}
	}
}

// ticketOf tells a ticket at random: mostly one that is in.
func (p *pair) ticketOf(c *chance) uint64 {
	in := p.l.In()
	switch {
	case c.below(20) == 0:
		return []uint64{0, most, c.next(), uint64(len(p.m.txs) + 1)}[c.below(4)]
	case len(in) == 0 || c.below(8) == 0:
		return uint64(1 + c.below(len(p.m.txs)+1))
	}
	return in[c.below(len(in))]
}

// setOf tells a set at random: mostly one that may be declared.
func (p *pair) setOf(c *chance) []int {
	set := make([]int, c.below(p.m.c.MaxRes+1)+c.below(2))
	for i := range set {
		set[i] = c.below(p.m.c.Blocks)
	}
	if len(set) > 0 && c.below(15) == 0 {
		set[c.below(len(set))] = []int{-1, p.m.c.Blocks, math.MinInt, math.MaxInt}[c.below(4)]
	}
	return set
}

// numberOf tells a number at random: mostly one of those that are used, else one on an edge.
func (p *pair) numberOf(c *chance) int {
	if c.below(6) == 0 {
		return []int{math.MinInt, math.MaxInt, -1, p.m.used() + 1}[c.below(4)]
	}
	return c.below(p.m.used() + 1)
}

// change does a call at random.
func (p *pair) change(c *chance) {
	p.t.Helper()
	switch c.below(16) {
	case 0, 1, 2:
		p.begin(p.setOf(c)...)
	case 3, 4, 5, 6:
		p.enter()
	case 7, 8, 9, 10:
		p.append(p.ticketOf(c))
	case 11, 12:
		p.done(p.ticketOf(c))
	case 13:
		p.leave(p.ticketOf(c))
	default:
		p.free(p.numberOf(c))
	}
}

// anyConfig tells a configuration at random that may be.
func anyConfig(c *chance) api.Config {
	store, log := 1+c.below(api.MaxBlocks), 2+c.below(api.MaxLog-1)
	res := 1 + c.below(min(store, log-1, api.MaxRes))
	return api.Config{Blocks: store, LogCap: log, MaxRes: res, High: 1 + c.below(log), Clients: 1 + c.below(8)}
}

func TestP13_9_RunsAtRandomWithCopies(t *testing.T) {
	c := chance(13)
	for range 100 {
		var pairs []*pair
		for range 3 {
			pairs = append(pairs, paired(t, anyConfig(&c)))
		}
		for range 150 {
			i := c.below(len(pairs))
			pairs[i].change(&c)
			if j := c.below(len(pairs)); c.below(8) == 0 && j != i {
				pairs[j] = pairs[i].copy()
			}
			for _, p := range pairs {
				p.tells()
			}
		}
	}
}

// crowd is a long run: transactions as clients have them, many at once, reckoned beside the line with numbers of its own.
type crowd struct {
	t              *testing.T
	c              *chance
	l              *admit.Line
	log            int
	in             []uint64
	left           map[uint64]int
	used, reserved int
	begun, last    uint64
}

// holds asks for the two numbers, and for W5.
func (r *crowd) holds() {
	r.t.Helper()
	room(r.t, r.l, r.used, r.reserved)
	if r.used+r.reserved > r.log {
		r.t.Fatalf("Used %d and Reserved %d of %d", r.used, r.reserved, r.log)
	}
}

func (r *crowd) begin() {
	set := make([]int, 1+r.c.below(16))
	for i := range set {
		set[i] = r.c.below(64)
	}
	n, _, e := r.l.Begin(set)
	is(r.t, e, api.OK)
	r.begun++
	one(r.t, "Begin", n, r.begun, nil, nil)
}

// enter lets all in that fit: each of them once, none left out.
func (r *crowd) enter() {
	r.t.Helper()
	for r.l.Fits() {
		n, form, e := r.l.Enter()
		is(r.t, e, api.OK)
		r.last++
		one(r.t, "Enter", n, r.last, nil, nil)
		r.in = append(r.in, n)
		r.left[n] = len(form) + 1
		r.reserved += len(form) + 1
		r.holds()
	}
	if len(r.in) == 0 && r.used == 0 && r.last < r.begun {
		r.t.Fatalf("nobody is in, nothing is used, and %d does not fit", r.last+1)
	}
}

// goes lets one do its images and its commit, or leave.
func (r *crowd) goes() {
	r.t.Helper()
	if len(r.in) == 0 {
		return
	}
	i := r.c.below(len(r.in))
	n := r.in[i]
	leave := r.c.below(5) == 0
	for range r.c.below(r.left[n]) {
		if leave {
			break
		}
		is(r.t, r.l.Append(n), api.OK)
		r.used, r.reserved, r.left[n] = r.used+1, r.reserved-1, r.left[n]-1
		r.holds()
	}
	if leave {
		is(r.t, r.l.Leave(n), api.OK)
	} else {
		is(r.t, r.l.Done(n), api.OK)
		r.used++
	}
	r.reserved -= r.left[n]
	delete(r.left, n)
	r.in = slices.Delete(r.in, i, i+1)
	r.holds()
}

func TestP13_10_LongRunsWithManyTickets(t *testing.T) {
	c := chance(1310)
	r := &crowd{t: t, c: &c, l: of(t, sized(64, 64, 16)), log: 64, left: map[uint64]int{}}
	for range 6000 {
		for range c.below(4) {
			r.begin()
		}
		r.enter()
		for range c.below(4) {
			r.goes()
		}
		n := c.below(r.used + 1)
		is(t, r.l.Freed(n), api.OK)
		r.used -= n
		r.holds()
		if in := slices.Sorted(slices.Values(r.in)); !slices.Equal(r.l.In(), in) {
			t.Fatalf("In = %v, want %v", r.l.In(), in)
		}
	}
	if r.last < 3000 {
		t.Fatalf("only %d of %d were let in", r.last, r.begun)
	}
	// All that still stand there come in, one behind the other.
	for r.last < r.begun {
		r.goes()
		is(t, r.l.Freed(r.used), api.OK)
		r.used = 0
		r.enter()
	}
	lists(t, r.l, nil, slices.Sorted(slices.Values(r.in)))
}

func TestP13_10_AVeryLongLine(t *testing.T) {
	const many = 100000
	l := of(t, sized(64, 64, 16))
	for n := range uint64(many) {
		got, _, e := l.Begin([]int{int(n % 64), int(n / 64 % 64)})
		is(t, e, api.OK)
		one(t, "Begin", got, n+1, nil, nil)
	}
	if w := l.Waiting(); len(w) != many || !rising(w) {
		t.Fatalf("%d stand in the line", len(w))
	}
	for n := range uint64(many) {
		got, form, e := l.Enter()
		is(t, e, api.OK)
		want, _ := blocks.Form([]int{int(n % 64), int(n / 64 % 64)}, 64, 16)
		one(t, "Enter", got, n+1, form, want)
		is(t, l.Done(n+1), api.OK)
		is(t, l.Freed(1), api.OK)
	}
	lists(t, l, nil, nil)
	room(t, l, 0, 0)
}

func TestP13_11_TheFirstFitsIntoAnEmptyLog(t *testing.T) {
	for log := 2; log <= api.MaxLog; log++ {
		for res := 1; res <= min(log-1, api.MaxRes); res++ {
			p := paired(t, sized(16, log, res))
			set := []int{}
			for b := range res {
				set = append(set, b)
			}
			p.goes(p.begin(set...), p.l.Fits(), p.begin(set...), p.enter(), p.done(1), p.free(1))
			p.goes(p.l.Fits(), p.enter(), p.leave(2), p.begin(0), p.l.Fits())
		}
	}
}

func TestP13_12_RefusedCallsChangeNothing(t *testing.T) {
	p := every(t)
	p.goes(p.enter()) // 6 is in: all 16 are taken, so 7 does not fit
	for range 3 {
		p.goes(!p.begin(), !p.begin(6), !p.begin(-1), !p.begin(0, 1, 2, 3, 4), !p.begin(0, 1, 2, 3, 4, 6), !p.enter())
		for _, ticket := range []uint64{0, 1, 2, 7, 8, most} {
			p.goes(!p.append(ticket), !p.done(ticket), !p.leave(ticket))
		}
		p.goes(!p.append(5), !p.leave(4), !p.leave(5))
		p.goes(!p.free(-1), !p.free(6), !p.free(math.MinInt), !p.free(math.MaxInt))
	}
	room(t, p.l, 5, 11)
	p.goes(p.begin(3), p.append(6), p.done(5), p.done(4), p.done(3), p.enter())
	lists(t, p.l, []uint64{8}, []uint64{6, 7})
}

func TestR3_SetsAndListsOfTheCaller(t *testing.T) {
	// What is handed in is changed behind the call, spare room too; so is what is handed out.
	p := paired(t, sized(8, 12, 3))
	spoil := func(list []int) {
		for i := range list[:cap(list)] {
			list[:cap(list)][i] = 7
		}
	}
	spoilTickets := func(list []uint64) {
		for i := range list[:cap(list)] {
			list[:cap(list)][i] = 99
		}
	}
	spare := append(make([]int, 0, 9), 4, 1, 4)
	rest := spare[:9]
	_, form, e := p.l.Begin(spare)
	is(t, e, api.OK)
	p.m.begin(spare)
	if !slices.Equal(rest, []int{4, 1, 4, 0, 0, 0, 0, 0, 0}) {
		t.Errorf("Begin has changed %v", rest)
	}
	twin := p.copy()
	spoil(rest)
	spoil(form)
	p.tells()
	rising := []int{0, 2, 3}
	_, form, _ = p.l.Begin(rising)
	p.m.begin([]int{0, 2, 3})
	spoil(form)
	if !slices.Equal(rising, []int{0, 2, 3}) {
		t.Errorf("the answer is the set: %v", rising)
	}
	spoil(rising)
	p.tells()
	for range 2 {
		_, form, _ = p.l.First()
		spoil(form)
		spoilTickets(p.l.Waiting())
		spoilTickets(p.l.In())
		p.tells()
		_, form, _ = p.l.Enter()
		p.m.enter()
		spoil(form)
		spoilTickets(p.l.In())
		spoilTickets(p.l.Waiting())
		p.tells()
	}
	p.goes(p.append(1), p.leave(2), p.append(1), !p.append(1))
	twin.tells()
	_, form, _ = twin.l.First()
	spoil(form)
	twin.tells()
	twin.goes(twin.enter(), twin.append(1), !twin.leave(1))
}

func TestR5_TheSameRunTwice(t *testing.T) {
	tells := func() string {
		c := chance(55)
		p := paired(t, anyConfig(&c))
		text := ""
		for range 300 {
			p.change(&c)
			n, form, ok := p.l.First()
			text += fmt.Sprint(n, form, ok, p.l.Waiting(), p.l.In(), p.l.Used(), p.l.Reserved(), ";")
		}
		return text
	}
	if tells() != tells() {
		t.Error("two runs with the same calls tell different things")
	}
}

// example is the configuration of the chapter's examples.
var example = api.Config{Blocks: 4, LogCap: 5, MaxRes: 3, High: 5, Clients: 2}

// example1 does what the first example says.
func example1(t *testing.T) *admit.Line {
	t.Helper()
	l := of(t, example)
	for _, c := range []struct {
		set  []int
		n    uint64
		form []int
		e    api.Errno
	}{
		{[]int{2, 0, 2}, 1, []int{0, 2}, api.OK},
		{[]int{3}, 2, []int{3}, api.OK},
		{[]int{}, 0, nil, api.ErrEmpty},
		{[]int{4, 0}, 0, nil, api.ErrBlock},
		{[]int{0, 1, 2, 3}, 0, nil, api.ErrMany},
	} {
		n, form, e := l.Begin(c.set)
		is(t, e, c.e)
		one(t, "Begin", n, c.n, form, c.form)
	}
	lists(t, l, []uint64{1, 2}, nil)
	return l
}

// example2 does what the second example says, behind the first one.
func example2(t *testing.T) *admit.Line {
	t.Helper()
	l := example1(t)
	n, form, e := l.Enter()
	is(t, e, api.OK)
	one(t, "Enter", n, 1, form, []int{0, 2})
	room(t, l, 0, 3)
	if !l.Fits() {
		t.Fatal("2 does not fit")
	}
	n, form, e = l.Enter()
	is(t, e, api.OK)
	one(t, "Enter", n, 2, form, []int{3})
	room(t, l, 0, 5)
	_, _, e = l.Enter()
	is(t, e, api.ErrTicket)
	return l
}

// example3 does what the third example says, behind the second one.
func example3(t *testing.T) *admit.Line {
	t.Helper()
	l := example2(t)
	is(t, l.Append(1), api.OK)
	room(t, l, 1, 4)
	is(t, l.Append(1), api.OK)
	room(t, l, 2, 3)
	is(t, l.Append(1), api.ErrRoom)
	is(t, l.Done(1), api.OK)
	room(t, l, 3, 2)
	is(t, l.Done(1), api.ErrTicket)
	is(t, l.Leave(2), api.OK)
	room(t, l, 3, 0)
	is(t, l.Freed(4), api.ErrInput)
	is(t, l.Freed(1), api.OK)
	room(t, l, 2, 0)
	return l
}

func TestExample1(t *testing.T) { example1(t) }

func TestExample2(t *testing.T) { example2(t) }

func TestExample3(t *testing.T) { example3(t) }

func TestExample4(t *testing.T) {
	l := example3(t)
	n, form, e := l.Begin([]int{0, 1, 2})
	is(t, e, api.OK)
	one(t, "Begin", n, 3, form, []int{0, 1, 2})
	if l.Fits() {
		t.Error("3 fits with 2 used")
	}
	_, _, e = l.Enter()
	is(t, e, api.ErrRoom)
	is(t, l.Freed(1), api.OK)
	if !l.Fits() {
		t.Error("3 does not fit with 1 used")
	}
}
