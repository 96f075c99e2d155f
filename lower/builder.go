package lower

import (
	"slices"
	"strconv"

	"fulling/api"
)

// builder collects the nodes of a graph, no two of which are identical.
type builder struct {
	nodes []api.Node
	// indices has the index of each node by its key.
	indices map[string]int
	// exceedsLimit is set when there is no room for a further node. The nodes are of no use then.
	exceedsLimit bool
}

func newBuilder() builder {
	return builder{indices: map[string]int{}}
}

// put returns the index of the node that is identical to this one, which it adds if there is none.
func (b *builder) put(op int, imm int64, kids ...int) int {
	var space [128]byte
	key := appendKey(space[:0], op, imm, kids)
	if i, exists := b.indices[string(key)]; exists {
		return i
	}
	i := len(b.nodes)
	if i == api.MaxNodes {
		b.exceedsLimit = true
		return 0
	}
	b.nodes = append(b.nodes, api.Node{Op: op, Imm: imm, Kids: slices.Clone(kids)})
	b.indices[string(key)] = i
	return i
}

// appendKey appends a text that is the same only for identical nodes.
func appendKey(text []byte, op int, imm int64, kids []int) []byte {
	text = strconv.AppendInt(text, int64(op), 10)
	text = strconv.AppendInt(append(text, ' '), imm, 10)
	for _, kid := range kids {
		text = strconv.AppendInt(append(text, ' '), int64(kid), 10)
	}
	return text
}

func (b *builder) constant(n int64) int {
	return b.put(api.OpConst, n)
}

// merge returns the node of what is first if the condition holds, otherwise second.
func (b *builder) merge(condition, first, second int) int {
	if first == second {
		return first
	}
	return b.put(api.OpSelect, 0, condition, first, second)
}
