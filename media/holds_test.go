package media_test

import (
	"math/rand"
	"strings"
	"testing"

	"cairn/api"
	"cairn/media"
)

// plain is a plain map, a plain string and a plain pair.
type plain struct {
	moment
	reg api.Register
}

// after does to the plain things what an access has done that answered OK.
func (p *plain) after(o op) {
	switch o.kind {
	case api.AccPut:
		p.blobs[o.key] = o.data
	case api.AccDelete:
		delete(p.blobs, o.key)
	case api.AccAppend:
		p.log += o.data
	case api.AccTrim:
		p.log = p.log[o.n:]
	case api.AccCut:
		p.log = p.log[:o.n]
	case api.AccStore:
		p.reg = o.reg
	}
}

// tells holds all that a device tells against the plain things.
func (p *plain) tells(t *testing.T, d *media.Device) {
	for _, k := range someKeys() {
		s, there := p.blobs[k]
		r := reply{bytes: s}
		if !there {
			r = refused(api.ErrAbsent)
		}
		want(t, "P8.7", "Get", ask(d, get(k)), r)
	}
	want(t, "P8.7", "List", ask(d, list()), keys(p.keys()...))
	want(t, "P8.7", "Read", ask(d, read()), told(p.log))
	want(t, "P8.7", "Reg", ask(d, reg()), reply{reg: p.reg})
}

func TestHonestIsAPlainThing(t *testing.T) {
	for seed := range 200 {
		r := rand.New(rand.NewSource(int64(seed)))
		d, _ := media.New(1+r.Intn(4), r.Intn(40), make([]api.Choice, r.Intn(30))...)
		p := &plain{moment: moment{blobs: map[api.Hash]string{}}}
		for range 60 {
			o := someOp(r, len(p.log))
			if ask(d, o).e == api.OK {
				p.after(o)
			}
			p.tells(t, d)
		}
	}
}

func TestKept(t *testing.T) {
	for seed := range 300 {
		r := rand.New(rand.NewSource(int64(seed)))
		b := newBoth(t, 1+r.Intn(4), r.Intn(30))
		b.wander(r, r.Intn(60), seed%10)
		b.up()
		b.choose()
		copied, e := media.Load(b.d.Media())
		if e != api.OK || len(copied.Accesses()) != 0 || copied.Down() {
			t.Fatalf("P8.8: Load(Media()) answers %d", e)
		}
		for range 60 {
			o := someOp(r, len(b.m.now.log))
			if got, want := ask(copied, o), b.do("P8.8", o); got != want {
				t.Fatalf("P8.8: %v answers %v at the copy, %v at the device", o, got, want)
			}
			if !sameMedia(copied.Media(), b.d.Media()) {
				t.Fatalf("P8.8: behind %v the copy has other things", o)
			}
		}
	}
}

func TestKeptWhileDown(t *testing.T) {
	b := loadBoth(t, full())
	b.by(torn(1), put(key(1), "pq"))
	d, e := media.Load(b.d.Media())
	if e != api.OK || d.Down() || !sameMedia(d.Media(), b.d.Media()) {
		t.Errorf("P8.8: a device that is down: %d", e)
	}
}

func TestRegisterNeverFalls(t *testing.T) {
	for seed := range 300 {
		r := rand.New(rand.NewSource(int64(seed)))
		d, _ := media.New(3, 20)
		var last api.Register
		for range 150 {
			c := someChoice(r)
			d.Choose(c)
			o := someOp(r, 10)
			if r.Intn(3) == 0 {
				o = set(last.Count+int64(r.Intn(5)-2), byte(r.Intn(250)))
			}
			wasDown := d.Down()
			got := ask(d, o)
			done := o.kind == api.AccStore && !wasDown && c.Kind != api.Crash && o.reg.Count > last.Count && o.reg.Count <= 1<<40
			if done {
				last = o.reg
			}
			if now := d.Media().Reg; now != last {
				t.Fatalf("P8.9: the register is %v, not %v, behind %v by %v", now, last, o, c)
			}
			if o.kind == api.AccLoad && got.e == api.OK && got.reg != last {
				t.Fatalf("P8.9: the register is told as %v, not %v, by %v", got.reg, last, c)
			}
			if r.Intn(2) == 0 {
				d.Up()
			}
		}
	}
}

// without tells what a device has, all but one key's blob.
func without(m api.Media, k api.Hash) api.Media {
	var left []api.Blob
	for _, b := range m.Blobs {
		if b.Key != k {
			left = append(left, b)
		}
	}
	m.Blobs = left
	return m
}

func TestAtOneStroke(t *testing.T) {
	for seed := range 400 {
		r := rand.New(rand.NewSource(int64(seed)))
		b := newBoth(t, 1+r.Intn(4), r.Intn(30))
		b.wander(r, r.Intn(50), seed%10)
		b.up()
		was := b.d.Media()
		o := someOp(r, len(was.Log))
		honest, _ := media.Load(was)
		if ask(honest, o).e == api.ErrInput {
			continue
		}
		kind := api.Torn + r.Intn(3)
		b.by(choice(kind, r.Intn(20), 0), o)
		now := b.d.Media()
		well := false
		switch {
		case kind == api.After || kind == api.Torn && o.kind == api.AccStore:
			well = sameMedia(now, honest.Media())
		case kind == api.Torn && o.kind == api.AccPut:
			well = sameMedia(without(now, o.key), without(was, o.key))
		case kind == api.Torn && o.kind == api.AccAppend:
			rest, ok := strings.CutPrefix(string(now.Log), string(was.Log))
			well = ok && strings.HasPrefix(o.data, rest)
			now.Log = was.Log
			well = well && sameMedia(now, was)
		default:
			well = sameMedia(now, was)
		}
		if !well {
			t.Fatalf("P8.10: %v by a choice of kind %d: %v, then %v", o, kind, was, b.d.Media())
		}
	}
}
