package journal

import (
	"bytes"

	"cairn/api"
	"cairn/rlp"
)

// fields is how many items a body is a list of.
const fields = 6

// Body tells a record's bytes without its code.
func Body(r api.Record) ([]byte, api.Errno) {
	if !mayBe(r) {
		return nil, api.ErrInput
	}
	return rlp.Encode(listOf(
		numberItem(int64(r.Kind)),
		numberItem(r.Count),
		numberItem(r.Seq),
		stringItem(r.Prev[:]),
		stringItem(r.Root[:]),
		changesItem(r.Changes),
	))
}

// listOf tells the list of items.
func listOf(items ...rlp.Item) rlp.Item { return rlp.Item{List: true, Items: items} }

// stringItem tells the item of bytes.
func stringItem(b []byte) rlp.Item { return rlp.Item{Bytes: b} }

// numberItem tells the item of a number, which in a record that may be is not below 0.
func numberItem(n int64) rlp.Item {
	x, _ := rlp.Number(n)
	return x
}

// changesItem tells the list of changes.
func changesItem(changes []api.Change) rlp.Item {
	x := listOf()
	for _, c := range changes {
		y := listOf(stringItem(c.Key))
		if !c.Gone {
			y.Items = append(y.Items, stringItem(c.Value))
		}
		x.Items = append(x.Items, y)
	}
	return x
}

// recordOf tells the record whose body bytes are, and whether they are that of one that may be.
// What the items seem to say is written as a body again and held against the bytes: so the form stands in Body alone, and
// whatever is taken here too easily (a hash that is too short, a number that is none, an item too many) does not pass.
func recordOf(body []byte) (api.Record, bool) {
	x, _, e := rlp.Decode(body)
	if e != api.OK || len(x.Items) != fields {
		return api.Record{}, false
	}
	r := api.Record{
		Kind:    int(numberOf(x.Items[0])),
		Count:   numberOf(x.Items[1]),
		Seq:     numberOf(x.Items[2]),
		Prev:    hashOf(x.Items[3]),
		Root:    hashOf(x.Items[4]),
		Changes: changesOf(x.Items[5]),
	}
	again, e := Body(r)
	if e != api.OK || !bytes.Equal(again, body) {
		return api.Record{}, false
	}
	return r, true
}

// numberOf tells the number that an item seems to be.
func numberOf(x rlp.Item) int64 {
	n, _ := x.Int()
	return n
}

// hashOf tells the hash that an item seems to be.
func hashOf(x rlp.Item) api.Hash {
	var h api.Hash
	copy(h[:], x.Bytes)
	return h
}

// changesOf tells the changes that an item seems to be. Their bytes are new memory already, as rlp hands it out.
func changesOf(x rlp.Item) []api.Change {
	var changes []api.Change
	for _, y := range x.Items {
		c := api.Change{Gone: len(y.Items) == 1}
		if len(y.Items) > 0 {
			c.Key = y.Items[0].Bytes
		}
		if len(y.Items) > 1 {
			c.Value = y.Items[1].Bytes
		}
		changes = append(changes, c)
	}
	return changes
}
