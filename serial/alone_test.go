package serial_test

import (
	"math"
	"slices"
	"testing"

	"wicket/api"
	"wicket/serial"
)

// tells holds what Alone answers.
func tells(t *testing.T, blocks int, txs [][]api.Op, want [][]api.Value, wantEnd []api.Value) {
	t.Helper()
	told, end, no := serial.Alone(blocks, txs)
	must(t, no == api.OK && len(told) == len(txs), "Alone(%d, %v) answers %d lists, %d", blocks, txs, len(told), no)
	must(t, slices.EqualFunc(told, want, slices.Equal), "Alone(%d, %v) tells %v, want %v", blocks, txs, told, want)
	must(t, slices.Equal(end, wantEnd), "Alone(%d, %v) ends with %v, want %v", blocks, txs, end, wantEnd)
}

// refusedAlone holds that Alone answers ErrInput, and nothing beside it.
func refusedAlone(t *testing.T, blocks int, txs ...[]api.Op) {
	t.Helper()
	told, end, no := serial.Alone(blocks, txs)
	must(t, no == api.ErrInput && len(told) == 0 && len(end) == 0, "Alone(%d, %v) answers %v, %v, %d, want ErrInput", blocks, txs, told, end, no)
}

// lastWrite tells what some operations have written last to a block; zeros, if nothing.
func lastWrite(ops []api.Op, block int) api.Value {
	for _, op := range slices.Backward(ops) {
		if op.Kind == api.OpWrite && op.Block == block {
			return op.Value
		}
	}
	return zero
}

// modelAlone tells what Alone should, by looking back from each Read at all operations ahead of it.
func modelAlone(blocks int, txs [][]api.Op) (told [][]api.Value, end []api.Value) {
	all := slices.Concat(txs...)
	n := 0
	for _, ops := range txs {
		var reads []api.Value
		for _, op := range ops {
			if op.Kind == api.OpRead {
				reads = append(reads, lastWrite(all[:n], op.Block))
			}
			n++
		}
		told = append(told, reads)
	}
	for block := range blocks {
		end = append(end, lastWrite(all, block))
	}
	return told, end
}

// TestAloneExamples: the chapter's.
func TestAloneExamples(t *testing.T) {
	txs := [][]api.Op{{write(0, a), read(0, c), read(1, c)}, {read(0, c), write(0, b)}}
	tells(t, 2, txs, [][]api.Value{{a, zero}, {a}}, []api.Value{b, zero})
	refusedAlone(t, 1, []api.Op{{Kind: api.OpCommit}})
	refusedAlone(t, 1, []api.Op{read(1, zero)})
}

// TestAloneOfNothing: 24.4, no lists, and lists without operations.
func TestAloneOfNothing(t *testing.T) {
	for blocks := 1; blocks <= api.MaxBlocks; blocks++ {
		end := make([]api.Value, blocks)
		tells(t, blocks, nil, nil, end)
		tells(t, blocks, [][]api.Op{}, nil, end)
		tells(t, blocks, [][]api.Op{nil}, [][]api.Value{nil}, end)
		tells(t, blocks, [][]api.Op{{}, nil, {}}, [][]api.Value{nil, nil, nil}, end)
	}
	tells(t, 1, [][]api.Op{nil, {write(0, a)}, nil, {read(0, zero)}, {}}, [][]api.Value{nil, nil, nil, {a}, nil}, []api.Value{a})
}

// TestAloneAtOnce: 24.4, reads of what was written, in the list and in those ahead.
func TestAloneAtOnce(t *testing.T) {
	tells(t, 1, [][]api.Op{{read(0, a), write(0, a), read(0, c), write(0, b), read(0, c)}}, [][]api.Value{{zero, a, b}}, []api.Value{b})
	tells(t, 2, [][]api.Op{{read(1, a)}, {write(1, a)}, {read(1, b), read(0, b)}, {write(1, zero), read(1, a)}}, [][]api.Value{{zero}, nil, {a, zero}, {zero}}, []api.Value{zero, zero})
}

// TestAloneAtBothEnds: 24.4, the first block and the last one of each store.
func TestAloneAtBothEnds(t *testing.T) {
	for blocks := 1; blocks <= api.MaxBlocks; blocks++ {
		end := make([]api.Value, blocks)
		end[0] = a
		last := end[blocks-1]
		end[blocks-1] = b
		tells(t, blocks, [][]api.Op{{write(0, a), read(blocks-1, c), write(blocks-1, b)}, {read(blocks-1, c)}}, [][]api.Value{{last}, {b}}, end)
		for _, block := range []int{math.MinInt, -blocks, -1, blocks, blocks + 1, 2 * blocks, 256, math.MaxInt} {
			refusedAlone(t, blocks, []api.Op{read(block, a)})
			refusedAlone(t, blocks, []api.Op{write(block, a)})
		}
	}
}

// TestAloneRefused: 24.4, one operation that may not be, wherever it stands behind and ahead of those that may.
func TestAloneRefused(t *testing.T) {
	var bad []api.Op
	for _, kind := range []int{math.MinInt, -1, 0, api.OpBegin, api.OpCommit, api.OpAbort, 6, 7, 99, math.MaxInt} {
		bad = append(bad, api.Op{Kind: kind}, api.Op{Kind: kind, Set: []int{0}, Block: 1, Value: a})
	}
	for _, block := range []int{math.MinInt, -1, 2, 3, math.MaxInt} {
		bad = append(bad, read(block, zero), write(block, a))
	}
	good := []api.Op{write(0, a), read(0, zero), read(1, zero), write(1, b)}
	for _, op := range bad {
		refusedAlone(t, 2, []api.Op{op})
		for i := range len(good) + 1 {
			spoilt := slices.Insert(slices.Clone(good), i, op)
			refusedAlone(t, 2, spoilt)
			refusedAlone(t, 2, good, spoilt)
			refusedAlone(t, 2, spoilt, good)
			refusedAlone(t, 2, nil, good, good, spoilt, nil)
		}
	}
	for _, blocks := range edges() {
		refusedAlone(t, blocks)
		refusedAlone(t, blocks, nil)
		refusedAlone(t, blocks, []api.Op{read(0, zero)})
		refusedAlone(t, blocks, []api.Op{{Kind: api.OpCommit}})
	}
	// A set, and the value of a Read, count for nothing.
	tells(t, 2, [][]api.Op{{{Kind: api.OpWrite, Block: 1, Value: a, Set: []int{-5, 99}}, {Kind: api.OpRead, Block: 1, Value: c, Set: []int{7}}}}, [][]api.Value{{a}}, []api.Value{zero, a})
}

// TestAloneAllShort goes through all short lists of operations, cut into lists in all ways.
func TestAloneAllShort(t *testing.T) {
	ops := []api.Op{read(0, c), read(1, c), write(0, a), write(0, b), write(1, a), write(1, zero)}
	n := 0
	var grow func(txs [][]api.Op, left int)
	grow = func(txs [][]api.Op, left int) {
		told, end := modelAlone(2, txs)
		tells(t, 2, txs, told, end)
		n++
		if left == 0 {
			return
		}
		for _, op := range ops {
			grow(append(txs[:len(txs):len(txs)], []api.Op{op}), left-1)
			if len(txs) > 0 {
				longer := slices.Clone(txs)
				longer[len(txs)-1] = append(slices.Clone(longer[len(txs)-1]), op)
				grow(longer, left-1)
			}
		}
	}
	grow(nil, 4)
	t.Logf("%d lists", n)
}

// TestAloneByChance: 24.4, many lists of many operations of many blocks.
func TestAloneByChance(t *testing.T) {
	ch := chance(5)
	for range 400 {
		blocks := 1 + ch.below([]int{3, api.MaxBlocks}[ch.below(2)])
		txs := make([][]api.Op, ch.below(9))
		for i := range txs {
			for range ch.below(15) {
				txs[i] = append(txs[i], api.Op{Kind: api.OpRead + ch.below(2), Block: ch.below(blocks), Value: ch.few(), Set: ch.some(3)})
			}
		}
		told, end := modelAlone(blocks, txs)
		tells(t, blocks, txs, told, end)
	}
}

// TestAloneLong: many lists, and a long one, are told soon.
func TestAloneLong(t *testing.T) {
	const n = 100000
	var txs [][]api.Op
	var long []api.Op
	for i := range n {
		txs = append(txs, []api.Op{write(i%5, numbered(i+1)), read((i+1)%5, zero)})
		long = append(long, write(i%5, numbered(i+1)), read((i+1)%5, zero))
	}
	told, end, no := serial.Alone(5, txs)
	must(t, no == api.OK && len(told) == n && told[n-1][0] == numbered(n-4), "%d", no)
	one, endOne, no := serial.Alone(5, [][]api.Op{long})
	must(t, no == api.OK && slices.Equal(slices.Concat(told...), one[0]) && slices.Equal(end, endOne), "%d", no)
}
