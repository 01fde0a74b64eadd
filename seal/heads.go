package seal

import (
	"cairn/api"
	"cairn/journal"
)

// register tells the register that stands for a head.
func register(h api.Head) api.Register {
	return api.Register{Count: h.Count, Tag: h.Tag}
}

// behind tells the head behind a record that was found.
func behind(x journal.Entry) api.Head {
	return headOf(x.Record, x.Tag)
}

// headOf tells the head behind a record with its code.
func headOf(r api.Record, tag api.Hash) api.Head {
	return api.Head{Count: r.Count, Seq: r.Seq, Tag: tag, Root: r.Root}
}
