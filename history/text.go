package history

import (
	"strconv"
	"strings"

	"wicket/api"
)

// The lines' first words.
const (
	configWord  = "wicket"
	programWord = "client"
	opWord      = "op"
	pickWord    = "pick"
	crashWord   = "crash"
	rowWord     = "row"
)

// What stands between words, and behind a line's last one.
const (
	blank   = " "
	lineEnd = "\n"
)

// digits are those of a value's bytes, two of each byte.
const digits = "0123456789abcdef"

// Encode tells a history's text.
func Encode(h History) string {
	w := &writer{}
	w.config(h.Config)
	for _, program := range h.Programs {
		w.program(program)
	}
	for _, p := range h.Picks {
		w.pick(p)
	}
	for i, row := range h.Rows {
		at := 0
		if i < len(h.At) {
			at = h.At[i]
		}
		w.row(at, row)
	}
	return string(w.text)
}

// Decode tells the history of a text.
func Decode(text string) (h History, e api.Errno) {
	defer func() {
		if recover() != nil {
			h, e = History{}, api.ErrText
		}
	}()
	r := &reader{rest: text}
	return r.history(), api.OK
}

// writer puts a text together.
type writer struct {
	text []byte
}

func (w *writer) config(c api.Config) {
	w.put(configWord)
	w.numbers(c.Blocks, c.LogCap, c.MaxRes, c.High, c.Clients)
	w.put(lineEnd)
}

func (w *writer) program(program []api.Op) {
	w.put(programWord)
	w.put(lineEnd)
	for _, op := range program {
		w.put(opWord)
		w.numbers(op.Kind, op.Block)
		w.value(op.Value)
		w.numbers(op.Set...)
		w.put(lineEnd)
	}
}

func (w *writer) pick(p api.Pick) {
	if p.Crash {
		w.put(crashWord)
	} else {
		w.put(pickWord)
	}
	w.numbers(p.Actor)
	w.numbers(p.Keep...)
	w.put(lineEnd)
}

func (w *writer) row(at int, row api.Row) {
	w.put(rowWord)
	w.numbers(at, row.Kind)
	w.wide(row.Life)
	w.numbers(row.Actor)
	w.wide(row.Ticket)
	w.numbers(row.Block)
	w.value(row.Value)
	w.wide(row.Position)
	w.numbers(row.Count, int(row.Err))
	w.numbers(row.Set...)
	w.put(lineEnd)
}

// put writes what stands at a line's beginning, between words or at its end.
func (w *writer) put(s string) {
	w.text = append(w.text, s...)
}

// numbers writes further words, each a number.
func (w *writer) numbers(l ...int) {
	for _, n := range l {
		w.put(blank)
		w.text = strconv.AppendInt(w.text, int64(n), 10)
	}
}

// wide writes a further word, a number without sign.
func (w *writer) wide(n uint64) {
	w.put(blank)
	w.text = strconv.AppendUint(w.text, n, 10)
}

// value writes a further word, a value.
func (w *writer) value(v api.Value) {
	w.put(blank)
	for _, b := range v {
		w.text = append(w.text, digits[b>>4], digits[b&15])
	}
}

// reader takes a text apart, from its beginning on. Where what comes next is none of what it is asked for, it gives up.
type reader struct {
	rest string
}

// giveUp ends the reading: the text is none of a history.
func giveUp() {
	panic(api.ErrText)
}

// history takes the whole text. (Calls within one value are made in the order in which they are written: here, and below, that of a line's words.)
func (r *reader) history() History {
	h := History{Config: r.config()}
	for r.takes(programWord) {
		h.Programs = append(h.Programs, r.program())
	}
	for p, ok := r.pick(); ok; p, ok = r.pick() {
		h.Picks = append(h.Picks, p)
	}
	for r.takes(rowWord) {
		h.At = append(h.At, r.number())
		h.Rows = append(h.Rows, r.row())
	}
	if r.rest != "" {
		giveUp()
	}
	return h
}

func (r *reader) config() api.Config {
	r.must(configWord)
	c := api.Config{Blocks: r.number(), LogCap: r.number(), MaxRes: r.number(), High: r.number(), Clients: r.number()}
	r.must(lineEnd)
	return c
}

// program takes what stands behind its first word: the end of that line, and a line for each operation.
func (r *reader) program() []api.Op {
	r.must(lineEnd)
	var program []api.Op
	for r.takes(opWord) {
		op := api.Op{Kind: r.number(), Block: r.number(), Value: r.value()}
		op.Set = r.numbers()
		program = append(program, op)
	}
	return program
}

// pick takes the next pick, or crash; false: there comes none.
func (r *reader) pick() (api.Pick, bool) {
	crash := r.takes(crashWord)
	if !crash && !r.takes(pickWord) {
		return api.Pick{}, false
	}
	return api.Pick{Crash: crash, Actor: r.number(), Keep: r.numbers()}, true
}

// row takes what stands behind a row's place.
func (r *reader) row() api.Row {
	return api.Row{
		Kind:     r.number(),
		Life:     r.wide(),
		Actor:    r.number(),
		Ticket:   r.wide(),
		Block:    r.number(),
		Value:    r.value(),
		Position: r.wide(),
		Count:    r.number(),
		Err:      api.Errno(r.number()),
		Set:      r.numbers(),
	}
}

// takes takes just these bytes, if they come next.
func (r *reader) takes(s string) bool {
	rest, ok := strings.CutPrefix(r.rest, s)
	r.rest = rest
	return ok
}

// must takes just these bytes.
func (r *reader) must(s string) {
	if !r.takes(s) {
		giveUp()
	}
}

// word takes a further word of a line, and the blank ahead of it.
func (r *reader) word() string {
	r.must(blank)
	n := strings.IndexAny(r.rest, blank+lineEnd)
	if n < 0 {
		giveUp()
	}
	word := r.rest[:n]
	r.rest = r.rest[n:]
	return word
}

// number takes a further word, a number. Whatever else the library takes for one, there is but one way to write it.
func (r *reader) number() int {
	word := r.word()
	n, err := strconv.Atoi(word)
	if err != nil || strconv.Itoa(n) != word {
		giveUp()
	}
	return n
}

// wide takes a further word, a number without sign.
func (r *reader) wide() uint64 {
	word := r.word()
	n, err := strconv.ParseUint(word, 10, 64)
	if err != nil || strconv.FormatUint(n, 10) != word {
		giveUp()
	}
	return n
}

// value takes a further word, a value.
func (r *reader) value() api.Value {
	word := r.word()
	var v api.Value
	if len(word) != 2*len(v) {
		giveUp()
	}
	for i := range v {
		v[i] = digit(word[2*i])<<4 | digit(word[2*i+1])
	}
	return v
}

// numbers takes all further words of a line, each a number, and the line's end.
func (r *reader) numbers() []int {
	var l []int
	for !r.takes(lineEnd) {
		l = append(l, r.number())
	}
	return l
}

// digit tells what a digit is worth.
func digit(c byte) byte {
	n := strings.IndexByte(digits, c)
	if n < 0 {
		giveUp()
	}
	return byte(n)
}
