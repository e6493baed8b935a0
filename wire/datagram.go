package wire

import "pennant/api"

const (
	maxNode     = 4096
	numberCount = 7 // of a datagram; its bytes stand behind them
)

// datagram is a packet on its way from a node to a node.
type datagram struct {
	from, to int
	packet   api.Packet
}

func isNode(n int) bool { return n >= 0 && n <= maxNode }

// numbers are where a datagram's numbers stand, in the order of datagramFields.
func (d *datagram) numbers() [numberCount]*int {
	p := &d.packet
	return [numberCount]*int{&d.from, &d.to, &p.Kind, &p.From, &p.To, &p.Seq, &p.Ack}
}

func datagramFields() []api.Field {
	node, count := numberField(0, maxNode), numberField(0, api.MaxNumber)
	return []api.Field{
		node, node,
		numberField(api.Hello, api.Data),
		numberField(1, api.MaxNumber),
		count, count, count,
		bytesField(api.MaxBody),
	}
}

// values are a datagram's, datagramOf is the one of such values, whether its packet may be or not.
func (d *datagram) values() []api.Value {
	v := make([]api.Value, numberCount+1)
	for i, at := range d.numbers() {
		v[i].N = uint64(*at)
	}
	v[numberCount].B = d.packet.Body
	return v
}

func datagramOf(v []api.Value) datagram {
	var d datagram
	for i, at := range d.numbers() {
		*at = int(v[i].N)
	}
	d.packet.Body = v[numberCount].B
	return d
}
