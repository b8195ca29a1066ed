package history_test

import (
	"encoding/hex"
	"fmt"
	"math"
	"math/big"
	"regexp"
	"slices"
	"strconv"
	"strings"
	"testing"

	"wicket/api"
	"wicket/history"
)

// printed tells a history's text by another hand.
func printed(h history.History) string {
	var b strings.Builder
	rest := func(l []int) {
		for _, n := range l {
			fmt.Fprintf(&b, " %d", n)
		}
		fmt.Fprintf(&b, "\n")
	}
	fmt.Fprintf(&b, "wicket %d %d %d %d %d\n", h.Config.Blocks, h.Config.LogCap, h.Config.MaxRes, h.Config.High, h.Config.Clients)
	for _, program := range h.Programs {
		fmt.Fprintf(&b, "client\n")
		for _, op := range program {
			fmt.Fprintf(&b, "op %d %d %x", op.Kind, op.Block, op.Value[:])
			rest(op.Set)
		}
	}
	for _, p := range h.Picks {
		fmt.Fprintf(&b, "%s %d", map[bool]string{true: "crash", false: "pick"}[p.Crash], p.Actor)
		rest(p.Keep)
	}
	for i, r := range h.Rows {
		fmt.Fprintf(&b, "row %d %d %d %d %d %d %x %d %d %d", append(h.At[:len(h.At):len(h.At)], make([]int, i+1)...)[i], r.Kind, r.Life, r.Actor, r.Ticket, r.Block, r.Value[:], r.Position, r.Count, int(r.Err))
		rest(r.Set)
	}
	return b.String()
}

// What words and lines may be, by another hand.
const (
	signed   = ` (?:0|-?[1-9][0-9]*)`
	unsigned = ` (?:0|[1-9][0-9]*)`
	valued   = ` [0-9a-f]{64}`
	opLine   = `op` + signed + signed + valued + `(?:` + signed + `)*\n`
	pickLine = `(?:pick|crash)` + signed + `(?:` + signed + `)*\n`
	rowLine  = `row` + signed + signed + unsigned + signed + unsigned + signed + valued + unsigned + signed + signed + `(?:` + signed + `)*\n`
)

var form = regexp.MustCompile(`\Awicket` + strings.Repeat(signed, 5) + `\n(?:client\n(?:` + opLine + `)*)*(?:` + pickLine + `)*(?:` + rowLine + `)*\z`)

// parts of a line are its words; numbers that do not fit are told by fits.
type parts struct {
	words []string
	fits  bool
}

// number tells the next word's number.
func (p *parts) number() int {
	return int(p.between(big.NewInt(math.MinInt), big.NewInt(math.MaxInt)).Int64())
}

// wide tells the next word's number without sign.
func (p *parts) wide() uint64 {
	return p.between(new(big.Int), new(big.Int).SetUint64(math.MaxUint64)).Uint64()
}

// between tells the next word's number, which must be one of those from least to greatest.
func (p *parts) between(least, greatest *big.Int) *big.Int {
	n, _ := new(big.Int).SetString(p.words[0], 10)
	p.words = p.words[1:]
	p.fits = p.fits && n.Cmp(least) >= 0 && n.Cmp(greatest) <= 0
	return n
}

// value tells the next word's value.
func (p *parts) value() api.Value {
	b, _ := hex.DecodeString(p.words[0])
	p.words = p.words[1:]
	return api.Value(b)
}

// all tells the numbers of all further words.
func (p *parts) all() []int {
	var l []int
	for len(p.words) > 0 {
		l = append(l, p.number())
	}
	return l
}

// understood tells the history of a text by another hand; false, if there is none.
func understood(text string) (history.History, bool) {
	var h history.History
	if !form.MatchString(text) {
		return h, false
	}
	for _, line := range strings.Split(strings.TrimSuffix(text, "\n"), "\n") {
		words := strings.Split(line, " ")
		p := parts{words[1:], true}
		switch words[0] {
		case "wicket":
			for _, field := range []*int{&h.Config.Blocks, &h.Config.LogCap, &h.Config.MaxRes, &h.Config.High, &h.Config.Clients} {
				*field = p.number()
			}
		case "client":
			h.Programs = append(h.Programs, nil)
		case "op":
			op := api.Op{}
			op.Kind = p.number()
			op.Block = p.number()
			op.Value = p.value()
			op.Set = p.all()
			last := &h.Programs[len(h.Programs)-1]
			*last = append(*last, op)
		case "row":
			h.At = append(h.At, p.number())
			r := api.Row{}
			r.Kind = p.number()
			r.Life = p.wide()
			r.Actor = p.number()
			r.Ticket = p.wide()
			r.Block = p.number()
			r.Value = p.value()
			r.Position = p.wide()
			r.Count = p.number()
			r.Err = api.Errno(p.number())
			r.Set = p.all()
			h.Rows = append(h.Rows, r)
		default:
			k := api.Pick{Crash: words[0] == "crash"}
			k.Actor = p.number()
			k.Keep = p.all()
			h.Picks = append(h.Picks, k)
		}
		if !p.fits {
			return history.History{}, false
		}
	}
	return h, true
}

// decodes holds what Decode answers of a text against the other hand's, and that Encode of it is just the text.
func decodes(t *testing.T, text string) bool {
	t.Helper()
	want, ok := understood(text)
	got, no := history.Decode(text)
	if !ok {
		must(t, no == api.ErrText && sameHistory(got, history.History{}), "Decode(%q) answers %d, want ErrText, or a history beside it", text, no)
		return false
	}
	must(t, no == api.OK && sameHistory(got, want), "Decode(%q) answers %d, or another history", text, no)
	must(t, len(got.At) == len(got.Rows), "%d places of %d rows", len(got.At), len(got.Rows))
	must(t, history.Encode(got) == text, "Encode of Decode(%q) is another text", text)
	return true
}

// encodes holds what Encode answers of a history, and that Decode tells it again.
func encodes(t *testing.T, h history.History) {
	t.Helper()
	text := history.Encode(h)
	must(t, text == printed(h), "Encode(%+v) is %q, want %q", h, text, printed(h))
	must(t, decodes(t, text), "Decode of Encode(%+v) is an error", h)
	// Of an At that is shorter or longer Decode tells what the text has.
	h.At = append(h.At[:len(h.At):len(h.At)], make([]int, len(h.Rows))...)[:len(h.Rows)]
	back, _ := history.Decode(text)
	must(t, sameHistory(back, h), "Decode of Encode(%+v) is %+v", h, back)
}

// zeros are the digits of a value of zeros.
var zeros = strings.Repeat("0", 64)

// TestTextExamples: the chapter's fourth.
func TestTextExamples(t *testing.T) {
	must(t, history.Encode(history.History{}) == "wicket 0 0 0 0 0\n", "the zero history: %q", history.Encode(history.History{}))
	must(t, decodes(t, "wicket 0 0 0 0 0\n"), "the zero history's text is not taken")
	for _, text := range []string{"", "wicket 0 0 0 0 0", "wicket 00 0 0 0 0\n"} {
		must(t, !decodes(t, text), "%q is taken", text)
	}
}

// whole tells a history of each kind of line, with little in it.
func whole() history.History {
	v := api.Value{0x01, 0x23, 0x45, 0x67, 0x89, 0xab, 0xcd, 0xef, 31: 0xf0}
	return history.History{
		Config:   config(2, 4, -1, 10, 1),
		Programs: [][]api.Op{{begin(1, 0), {Kind: 3, Block: 1, Value: v}}, nil},
		Picks:    []api.Pick{{Actor: 12}, {Crash: true, Actor: -3, Keep: []int{2, 0}}, {Actor: 0, Keep: []int{-7}}},
		Rows:     []api.Row{{Kind: 2, Life: 1, Ticket: 1, Block: -1, Set: []int{0, 1}}, {Kind: 5, Life: 20, Actor: 3, Ticket: 4, Block: 1, Value: v, Position: 9, Count: -2, Err: 160}},
		At:       []int{0, 2},
	}
}

// wholeText is its text.
const wholeText = `wicket 2 4 -1 10 1
client
op 1 0 0000000000000000000000000000000000000000000000000000000000000000 1 0
op 3 1 0123456789abcdef0000000000000000000000000000000000000000000000f0
client
pick 12
crash -3 2 0
pick 0 -7
row 0 2 1 0 1 -1 0000000000000000000000000000000000000000000000000000000000000000 0 0 0 0 1
row 2 5 20 3 4 1 0123456789abcdef0000000000000000000000000000000000000000000000f0 9 -2 160
`

// TestWholeText: 23.4 and 23.5, each kind of line, written out.
func TestWholeText(t *testing.T) {
	must(t, history.Encode(whole()) == wholeText, "Encode = %q", history.Encode(whole()))
	encodes(t, whole())
	h, no := history.Decode(wholeText)
	must(t, no == api.OK && sameHistory(h, whole()), "Decode = %+v, %d", h, no)
}

// TestEncodeFields: each field at its edges.
func TestEncodeFields(t *testing.T) {
	ints := []int{0, 1, -1, 9, 10, 99, 100, -10, math.MaxInt, math.MinInt, math.MaxInt - 1, math.MinInt + 1, 1 << 31, 1 << 32, -1 << 31, 1 << 62}
	wides := []uint64{0, 1, 9, 10, 99, 100, 1 << 31, 1 << 32, 1 << 62, 1<<63 - 1, 1 << 63, math.MaxUint64 - 1, math.MaxUint64, 10000000000000000000}
	for _, n := range ints {
		for _, c := range []api.Config{{Blocks: n}, {LogCap: n}, {MaxRes: n}, {High: n}, {Clients: n}, config(n, n, n, n, n)} {
			encodes(t, history.History{Config: c})
		}
		for _, op := range []api.Op{{Kind: n}, {Block: n}, {Set: []int{n}}, {Set: []int{n, 0, n}}} {
			encodes(t, history.History{Programs: [][]api.Op{{op}}})
			encodes(t, history.History{Programs: [][]api.Op{nil, {op, op}, nil, {op}}})
		}
		for _, p := range []api.Pick{{Actor: n}, {Actor: n, Crash: true}, {Keep: []int{n}}, {Keep: []int{0, n, n}, Crash: true}} {
			encodes(t, history.History{Picks: []api.Pick{p}})
			encodes(t, history.History{Picks: []api.Pick{{}, p, {Crash: true}, p}})
		}
		for _, r := range []api.Row{{Kind: n}, {Actor: n}, {Block: n}, {Count: n}, {Err: api.Errno(n)}, {Set: []int{n}}, {Set: []int{n, 0, n}}} {
			encodes(t, history.History{Rows: []api.Row{r}, At: []int{n}})
			encodes(t, history.History{Rows: []api.Row{{}, r}, At: []int{-n, 5}})
		}
	}
	for _, n := range wides {
		for _, r := range []api.Row{{Life: n}, {Ticket: n}, {Position: n}, {Life: n, Ticket: n, Position: n}} {
			encodes(t, history.History{Rows: []api.Row{r, r}, At: []int{0, 1}})
		}
	}
}

// TestEncodeValues: each byte at each place.
func TestEncodeValues(t *testing.T) {
	for b := range 256 {
		v := filled(byte(b))
		encodes(t, history.History{Programs: [][]api.Op{{{Value: v}}}, Rows: []api.Row{{Value: v}}, At: []int{0}})
		for i := range v {
			var v api.Value
			v[i] = byte(b)
			text := history.Encode(history.History{Programs: [][]api.Op{{{Value: v}}}, Rows: []api.Row{{Value: v}}})
			want := zeros[:2*i] + fmt.Sprintf("%02x", b) + zeros[2*i+2:]
			must(t, text == "wicket 0 0 0 0 0\nclient\nop 0 0 "+want+"\nrow 0 0 0 0 0 0 "+want+" 0 0 0\n", "the value %x: %q", v, text)
		}
	}
}

// TestEncodePlaces: an At that is shorter, longer, empty.
func TestEncodePlaces(t *testing.T) {
	rows := []api.Row{{Kind: 1}, {Kind: 2}, {Kind: 3}}
	for _, x := range []struct {
		at   []int
		want string
	}{
		{nil, "000"}, {[]int{}, "000"}, {[]int{5}, "500"}, {[]int{5, 6}, "560"}, {[]int{5, 6, 7}, "567"}, {[]int{5, 6, 7, 8}, "567"}, {[]int{5, 6, 7, 8, 9, 10}, "567"},
		{spacious([]int{5}, 9), "500"},
	} {
		h := history.History{Rows: rows, At: x.at}
		text := "wicket 0 0 0 0 0\n"
		for i := range rows {
			text += fmt.Sprintf("row %c %d 0 0 0 0 %s 0 0 0\n", x.want[i], i+1, zeros)
		}
		must(t, history.Encode(h) == text, "of the places %v Encode = %q", x.at, history.Encode(h))
		encodes(t, h)
		encodes(t, history.History{At: x.at})
	}
}

// odd tells a number, the edges of its type among them.
func (c *chance) odd() int {
	edges := []int{0, 0, 0, 1, -1, 2, 7, 10, -10, math.MaxInt, math.MinInt, math.MaxInt - 1, math.MinInt + 1}
	if c.oneIn(3) {
		return int(c.next() >> c.below(64))
	}
	return edges[c.below(len(edges))]
}

// odds tells a list of up to so many numbers.
func (c *chance) odds(most int) []int {
	var l []int
	for range c.below(most + 1) {
		l = append(l, c.odd())
	}
	return l
}

// oddHistory tells a history of whatever numbers.
func (c *chance) oddHistory() history.History {
	h := history.History{Config: config(c.odd(), c.odd(), c.odd(), c.odd(), c.odd())}
	for range c.below(4) {
		var program []api.Op
		for range c.below(4) {
			program = append(program, api.Op{Kind: c.odd(), Block: c.odd(), Value: c.value(), Set: c.odds(3)})
		}
		h.Programs = append(h.Programs, program)
	}
	for range c.below(5) {
		h.Picks = append(h.Picks, api.Pick{Actor: c.odd(), Crash: c.oneIn(2), Keep: c.odds(3)})
	}
	for range c.below(5) {
		h.Rows = append(h.Rows, api.Row{Kind: c.odd(), Life: uint64(c.odd()), Actor: c.odd(), Ticket: uint64(c.odd()), Block: c.odd(), Value: c.value(),
			Position: uint64(c.odd()), Count: c.odd(), Err: api.Errno(c.odd()), Set: c.odds(3)})
		h.At = append(h.At, c.odd())
	}
	if c.oneIn(4) {
		h.At = c.odds(7)
	}
	return h
}

// TestThereAndBack: P23.7, histories of whatever numbers, and those of runs.
func TestThereAndBack(t *testing.T) {
	ch := chance(31)
	for range 3000 {
		encodes(t, ch.oddHistory())
	}
	for _, c := range append(small(), large()...) {
		for _, often := range []int{0, 20} {
			h := ch.any(t, c, 150, often)
			encodes(t, h)
			back, _ := history.Decode(history.Encode(h))
			must(t, history.Check(back) == api.OK, "Check of a history that was read: %d", history.Check(back))
		}
	}
	encodes(t, history.History{Programs: [][]api.Op{}, Picks: []api.Pick{}, Rows: []api.Row{}, At: []int{}})
	encodes(t, history.History{Programs: [][]api.Op{{}, nil, {{Set: []int{}}}}, Picks: []api.Pick{{Keep: []int{}}}, Rows: []api.Row{{Set: []int{}}}, At: []int{0}})
	encodes(t, history.History{Programs: slices.Repeat([][]api.Op{nil}, 1000)})
	long := make([]int, 3000)
	for i := range long {
		long[i] = ch.odd()
	}
	encodes(t, history.History{Programs: [][]api.Op{{{Set: long}}}, Picks: []api.Pick{{Keep: long}, {Keep: long, Crash: true}}, Rows: []api.Row{{Set: long}}, At: long})
}

// TestDecodeRefuses: 23.5, texts that are nearly one, written out.
func TestDecodeRefuses(t *testing.T) {
	first := "wicket 0 0 0 0 0\n"
	lastWide, lastInt, leastInt := "18446744073709551615", "9223372036854775807", "-9223372036854775808"
	fields := []string{"0", "0", "0", "0", "0", "0", zeros, "0", "0", "0"}
	rowWith := func(i int, word string) string {
		l := slices.Clone(fields)
		l[i] = word
		return first + "row " + strings.Join(l, " ") + "\n"
	}
	taken := []string{
		first, first + "client\n", first + "client\nclient\n", first + "client\nop 0 0 " + zeros + "\n", first + "client\nop 0 0 " + zeros + " 0\n", first + "pick 0\n", first + "crash 0\n",
		first + "crash 0\npick 0\ncrash 0\n", first + "pick 0 0 0\n", rowWith(0, "0"), rowWith(0, "-1"), first + "client\npick 0\n" + rowWith(0, "1")[len(first):],
		"wicket " + lastInt + " " + leastInt + " 0 0 0\n", rowWith(2, lastWide), rowWith(4, lastWide), rowWith(7, lastWide), rowWith(9, lastInt), rowWith(9, leastInt), rowWith(0, lastInt), rowWith(0, leastInt),
		rowWith(6, strings.Repeat("f", 64)), first + "pick " + lastInt + " " + leastInt + "\n",
	}
	for _, text := range taken {
		must(t, decodes(t, text), "%q is not taken", text)
	}
	refused := []string{
		"", "\n", " ", "w", "wicket", "wicket\n", "wicket 0 0 0 0\n", "wicket 0 0 0 0 \n", "wicket 0 0 0 0 0 0\n", "wicket 0 0 0 0 0 \n", "wicket  0 0 0 0 0\n", " wicket 0 0 0 0 0\n", "\nwicket 0 0 0 0 0\n",
		"wicket 0 0  0 0 0\n", "wicket\t0 0 0 0 0\n", "wicket 0 0 0 0\t0\n", "wicket 0 0 0 0 0\r\n", "wicket 0 0 0 0 0\n\r", "wicket 0 0 0 0 +0\n", "wicket 0 0 0 0 +1\n", "wicket 0 0 0 0 -0\n", "wicket 0 0 0 0 00\n", "wicket 0 0 0 0 01\n",
		"wicket 0 0 0 0 -01\n", "wicket 0 0 0 0 -\n", "wicket 0 0 0 0 --1\n", "wicket 0 0 0 0 1-\n", "wicket 0 0 0 0 1_0\n", "wicket 0 0 0 0 0x1\n", "wicket 0 0 0 0 1e1\n", "wicket 0 0 0 0 1.0\n", "wicket 0 0 0 0 a\n", "wicket 0 0 0 0 \u0661\n", "wicket 0 0 0 0 \xb1\n",
		"wicket 9223372036854775808 0 0 0 0\n", "wicket 0 0 0 0 9223372036854775808\n", "wicket 0 0 0 0 -9223372036854775809\n", "wicket 0 0 0 0 " + strings.Repeat("9", 5000) + "\n", "wicket 0 0 0 0 " + lastWide + "\n",
		"Wicket 0 0 0 0 0\n", "wickets 0 0 0 0 0\n", "wicke 0 0 0 0 0\n", "config 0 0 0 0 0\n", "wicket0 0 0 0 0\n", "wicket 0 0 0 0 0\x00", "wicket 0 0 0 0 0\x00\n", "wicket 0 0 0 0 0\v", "wicket 0 0 0 0 0\u0085", "wicket 0 0 0 0 0\u2028",
		first + "\n", first + first, first + " ", first + " \n", first + "x", first + "client", first + "client \n", first + "client 0\n", first + "clients\n", first + "client\n\n", first + "Client\n", first + "\nclient\n",
		first + "op 0 0 " + zeros + "\n", first + "pick 0\nclient\n", first + "pick 0\nop 0 0 " + zeros + "\n", first + "client\nop 0 0\n", first + "client\nop 0 " + zeros + "\n", first + "client\nop 0 0 0 " + zeros + "\n",
		first + "client\nop 0 0 " + zeros + " \n", first + "client\nop 0 0 " + zeros + "  1\n", first + "client\nop 0 0 " + zeros + "\n" + first, first + "client\nop 0 0 " + zeros[1:] + "\n", first + "client\nop 0 0 " + zeros + "0\n", first + "client\nop 0 0 \n", first + "client\nop 0 0 " + zeros[2:] + "0g\n",
		first + "pick\n", first + "pick \n", first + "pick 0", first + "pick 0 \n", first + "pick -0\n", first + "pick 0 00\n", first + "picks 0\n", first + "pick0\n", first + "crash\n", first + "crash all\n", first + "crash  0\n", first + "Crash 0\n", first + "pick 0\npick", first + "pick 9223372036854775808\n",
		rowWith(0, "0") + "pick 0\n", rowWith(0, "0") + "client\n", rowWith(0, "0") + first, rowWith(0, "0") + "\n", rowWith(0, "0") + " ", strings.TrimSuffix(rowWith(0, "0"), "\n"), rowWith(9, "0 "), rowWith(0, ""), rowWith(0, "-0"),
		first + "row\n", first + "row 0\n", first + "row " + strings.Join(fields[1:], " ") + "\n", first + "row " + strings.Join(fields[:9], " ") + "\n", first + "rows " + strings.Join(fields, " ") + "\n",
		rowWith(6, zeros[1:]), rowWith(6, zeros[2:]), rowWith(6, zeros+"0"), rowWith(6, zeros+"00"), rowWith(6, strings.Repeat("F", 64)), rowWith(6, zeros[1:]+"A"), rowWith(6, "g"+zeros[1:]), rowWith(6, zeros[1:]+"/"), rowWith(6, zeros[1:]+":"), rowWith(6, zeros[1:]+"`"), rowWith(6, "-"+zeros[1:]), rowWith(6, zeros[2:]+"\u00e9"),
	}
	for _, i := range []int{2, 4, 7} {
		refused = append(refused, rowWith(i, "18446744073709551616"), rowWith(i, "-1"), rowWith(i, "-0"), rowWith(i, "+1"), rowWith(i, "01"), rowWith(i, leastInt), rowWith(i, "99999999999999999999"), rowWith(i, "184467440737095516150"))
	}
	for _, i := range []int{0, 1, 3, 5, 8, 9} {
		refused = append(refused, rowWith(i, "9223372036854775808"), rowWith(i, "-9223372036854775809"), rowWith(i, "-0"), rowWith(i, "+1"), rowWith(i, "01"), rowWith(i, lastWide))
	}
	for _, text := range refused {
		must(t, !decodes(t, text), "%q is taken", text)
	}
}

// TestDecodeOtherBytes: a text with one byte less, one more, or one changed, at each place.
func TestDecodeOtherBytes(t *testing.T) {
	text := "wicket 2 4 -1 10 1\nclient\nop 1 0 " + zeros[:62] + "9a 1 -20\nop 3 1 " + zeros + "\nclient\npick 12\ncrash -3 2 0\nrow 0 2 1 0 1 -1 " + zeros + " 10 0 0 0 1\n"
	must(t, decodes(t, text), "the text is not taken")
	taken := 0
	for i := range len(text) + 1 {
		t.Run(strconv.Itoa(i), func(t *testing.T) {
			for _, b := range []byte("0159afgAF-+ \n\t\r\x00\v/:`wcopr_.x\x7f\x80\xff") {
				others := []string{text[:i] + string([]byte{b}) + text[i:], text[:i]}
				if i < len(text) {
					others = append(others, text[:i]+string([]byte{b})+text[i+1:], text[:i]+text[i+1:], text[:i]+text[i:i+1]+text[i:])
				}
				for _, other := range others {
					if decodes(t, other) {
						taken++
					}
				}
			}
		})
	}
	must(t, taken > 300, "%d of them are taken", taken)
}

// TestDecodeOtherWords: a text with each word another one, missing, or there twice; and each line missing, there twice, or at another place.
func TestDecodeOtherWords(t *testing.T) {
	odd := []string{"", "0", "1", "-1", "+1", "-0", "00", "01", "-01", "007", "9", "10", "9223372036854775807", "9223372036854775808", "-9223372036854775808", "-9223372036854775809",
		"18446744073709551615", "18446744073709551616", "-18446744073709551615", "1844674407370955161500", " 1", "1 ", "1 1", "1\t1", "1\n1", "\n", "1\n", "0x1", "0b1", "0o1", "1_0", "1e1", "1.", "NaN", "Inf", "-", "+", "\u0663",
		zeros, zeros[:63], zeros + "0", zeros[:63] + "A", zeros[:63] + "g", zeros[:63] + "f", strings.Repeat("9", 64), "-" + zeros[:63], "wicket", "client", "op", "pick", "crash", "row", "pick 0\nrow", "client\nop", "CLIENT"}
	ch := chance(8)
	texts := []string{wholeText}
	for range 6 {
		texts = append(texts, history.Encode(ch.oddHistory()))
	}
	for _, text := range texts {
		words := regexp.MustCompile(`[^ \n]+`).FindAllStringIndex(text, -1)
		for _, w := range words {
			for _, other := range append(odd, text[w[0]:w[1]]+" "+text[w[0]:w[1]]) {
				decodes(t, text[:w[0]]+other+text[w[1]:])
			}
		}
		lines := strings.SplitAfter(text, "\n")
		for i := range lines {
			for j := range lines {
				moved := slices.Delete(slices.Clone(lines), i, i+1)
				decodes(t, strings.Join(moved, ""))
				decodes(t, strings.Join(slices.Insert(moved, min(j, len(moved)), lines[i]), ""))
				decodes(t, strings.Join(slices.Insert(slices.Clone(lines), j, lines[i]), ""))
			}
		}
	}
}

// TestTextApart: R3, what is handed to Encode is not changed; what Decode answers may be written over and grown.
func TestTextApart(t *testing.T) {
	ch := chance(12)
	for range 40 {
		h := ch.oddHistory()
		text := printed(h)
		twin := spaciousHistory(h)
		untouched(t, historyParts(twin), func() {
			must(t, history.Encode(twin) == text, "Encode of a history with room to spare")
		})
		first, _ := history.Decode(text)
		second, _ := history.Decode(text)
		apart(t, historyParts(first))
		must(t, history.Encode(second) == history.Encode(h), "an answer that is written over changes another one")
		decodes(t, text)
	}
}

// TestTextAgain: R5, the same questions again, between others that are refused, are answered alike.
func TestTextAgain(t *testing.T) {
	ch := chance(13)
	var l []history.History
	for range 20 {
		l = append(l, ch.oddHistory())
	}
	for range 3 {
		for _, h := range l {
			text := history.Encode(h)
			decodes(t, text[:len(text)-1])
			encodes(t, h)
			decodes(t, text+text)
			must(t, history.Encode(h) == text, "Encode answers another text")
		}
	}
}

// TestLongTexts: texts that no run is long enough for are told and read soon.
func TestLongTexts(t *testing.T) {
	h := history.History{Picks: make([]api.Pick, 300000), Rows: make([]api.Row, 100000), At: make([]int, 100000)}
	h.Picks[7].Keep = make([]int, 300000)
	text := history.Encode(h)
	back, no := history.Decode(text)
	must(t, no == api.OK && sameHistory(back, h), "there and back: %d", no)
	for _, text := range []string{strings.Repeat("9", 1<<22), "wicket " + strings.Repeat("9", 1<<22), "wicket 0 0 0 0 0\npick" + strings.Repeat(" 1", 1<<20), strings.Repeat("\n", 1<<20)} {
		_, no := history.Decode(text)
		must(t, no == api.ErrText, "Decode answers %d", no)
	}
}
