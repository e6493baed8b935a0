package wire

import (
	"pennant/api"
	"pennant/manifest"
)

const (
	maxDevice   = 4096
	maxPart     = 1024 // bytes of a Part's Body
	maxManifest = 500  // bytes of an Offer's manifest
)

// number is one that a message has: where it stands in it, and from what to what it may be.
type number struct {
	at          *int
	least, most int
}

// numbersOf are those that a message's kind has, in their order.
func numbersOf(m *api.Message) []number {
	device := number{&m.Device, 1, maxDevice}
	seq := number{&m.Seq, 1, api.MaxNumber}
	campaign := number{&m.Campaign, 1, api.MaxNumber}
	lease := number{&m.Lease, 1, api.MaxNumber}
	chunk := number{&m.Chunk, 0, api.MaxChunks - 1}
	outcome := number{&m.Outcome, api.Committed, api.Refused}
	switch m.Kind {
	case api.Poll:
		return []number{device, {&m.Version, 0, api.MaxVersion}}
	case api.Offer, api.Gone:
		return []number{campaign, lease}
	case api.Want, api.Part:
		return []number{campaign, lease, chunk}
	case api.Tell:
		return []number{device, seq, campaign, lease, {&m.Version, 1, api.MaxVersion}, outcome}
	case api.Told:
		return []number{seq}
	}
	return nil
}

// maxBytes is how many bytes may stand behind the numbers of a kind; 0, if it has no such field.
func maxBytes(kind int) int {
	switch kind {
	case api.Offer:
		return maxManifest
	case api.Part:
		return maxPart
	}
	return 0
}

func numbersMay(m api.Message) bool {
	for _, n := range numbersOf(&m) {
		if *n.at < n.least || *n.at > n.most {
			return false
		}
		*n.at = 0 // m is this call's own: what is left is what its kind has not
	}
	return m.Device == 0 && m.Campaign == 0 && m.Lease == 0 && m.Version == 0 && m.Seq == 0 && m.Chunk == 0 && m.Outcome == 0
}

func manifestMay(m api.Message) bool {
	if m.Kind == api.Offer {
		return manifest.Right(m.Manifest)
	}
	return isNone(m.Manifest)
}

// isNone tells whether there is nothing in a manifest.
func isNone(m api.Manifest) bool {
	var none api.Manifest
	return m.Version == 0 && m.Size == 0 && m.Chunk == 0 && m.Hash == none.Hash && len(m.Sums) == 0
}

func bodyMay(m api.Message) bool {
	if m.Kind == api.Part {
		return len(m.Body) <= maxPart
	}
	return len(m.Body) == 0
}

func messageFields(kind int) []api.Field {
	var l []api.Field
	for _, n := range numbersOf(&api.Message{Kind: kind}) {
		l = append(l, numberField(n.least, n.most))
	}
	if most := maxBytes(kind); most > 0 {
		l = append(l, bytesField(most))
	}
	return l
}

func numberField(least, most int) api.Field {
	return api.Field{Kind: api.FieldNumber, Min: uint64(least), Max: uint64(most)}
}

func bytesField(most int) api.Field {
	return api.Field{Kind: api.FieldBytes, Max: uint64(most)}
}

// valuesOf are those of a message that may be, messageOf is the message of such values, if there is one.
func valuesOf(m api.Message) []api.Value {
	var v []api.Value
	for _, n := range numbersOf(&m) {
		v = append(v, api.Value{N: uint64(*n.at)})
	}
	switch m.Kind {
	case api.Offer:
		code, _ := manifest.Encode(m.Manifest) // it may be, as the message may
		v = append(v, api.Value{B: code})
	case api.Part:
		v = append(v, api.Value{B: m.Body})
	}
	return v
}

func messageOf(kind int, v []api.Value) (api.Message, api.Errno) {
	m := api.Message{Kind: kind}
	for i, n := range numbersOf(&m) {
		*n.at = int(v[i].N)
	}
	last := v[len(v)-1].B
	switch kind {
	case api.Offer:
		var e api.Errno
		if m.Manifest, e = manifest.Decode(last); e != api.OK {
			return api.Message{}, e
		}
	case api.Part:
		m.Body = last
	}
	return m, api.OK
}
