package codec

import (
	"stonecrop/api"
	"stonecrop/num"
)

// node is a right item within this package: a number, a text or a list. Its type is its kind, so it can't have what its kind doesn't have.
type node any

type (
	number uint64
	text   string
	list   []node
)

// fault is what goes up by a panic: an error, and its place where bytes are read.
type fault struct {
	e  api.Errno
	at int
}

func fail(e api.Errno, at int) { panic(fault{e, at}) }

// caught takes faults alone: any other panic goes on, as it tells an error of this package.
func caught(do func()) (f fault) {
	defer func() {
		if r := recover(); r != nil {
			f = r.(fault)
		}
	}()
	do()
	return fault{}
}

// planter makes the tree of an item, and counts the bytes of its form on the way.
type planter struct{ size int }

func (p *planter) over() bool { return p.size > api.MaxBytes }

// add stops just above the limit, so that the size can't run over, however much there is.
func (p *planter) add(n int) { p.size = min(p.size+n, api.MaxBytes+1) }

// plant looks at all parts of an item even if its form is too long, as errors of form go ahead; but it keeps no more of it then.
func (p *planter) plant(x api.Item, nest int) node {
	if !formed(x) {
		fail(api.ErrForm, 0)
	}
	if nest >= api.MaxNest {
		fail(api.ErrLimit, 0)
	}
	p.add(1)
	switch x.Kind {
	case api.KNum:
		p.add(num.Size(x.N))
		return number(x.N)
	case api.KText:
		p.add(num.Size(uint64(len(x.S))))
		p.add(len(x.S))
		return text(x.S)
	}
	p.add(num.Size(uint64(len(x.L))))
	var parts list
	for _, y := range x.L {
		part := p.plant(y, nest+1)
		if !p.over() {
			parts = append(parts, part)
		}
	}
	return parts
}

// formed tells whether an item is of a kind and has nothing that this kind doesn't have.
func formed(x api.Item) bool {
	switch x.Kind {
	case api.KNum:
		return x.S == "" && len(x.L) == 0
	case api.KText:
		return x.N == 0 && len(x.L) == 0
	case api.KList:
		return x.N == 0 && x.S == ""
	}
	return false
}

func write(b []byte, n node) []byte {
	switch v := n.(type) {
	case number:
		b = head(b, api.KNum, uint64(v))
	case text:
		b = head(b, api.KText, uint64(len(v)))
		b = append(b, v...)
	case list:
		b = head(b, api.KList, uint64(len(v)))
		for _, part := range v {
			b = write(b, part)
		}
	}
	return b
}

// head has num put its form behind nothing, since it copies whatever it is put behind.
func head(b []byte, kind byte, v uint64) []byte {
	return append(append(b, kind), num.Put(nil, v)...)
}

// reader reads items from b, from at on.
type reader struct {
	b  []byte
	at int
}

func (r *reader) left() uint64 { return uint64(len(r.b) - r.at) }

func (r *reader) item(nest int) node {
	kind := r.kind(nest)
	v := r.number()
	if kind == api.KNum {
		return number(v)
	}
	if v > r.left() {
		fail(api.ErrShort, r.at)
	}
	if kind == api.KText {
		s := text(r.b[r.at : r.at+int(v)])
		r.at += int(v)
		return s
	}
	// The list grows as its parts are read: lists within lists may each tell as many parts as there are bytes left.
	var parts list
	for range v {
		parts = append(parts, r.item(nest+1))
	}
	return parts
}

func (r *reader) kind(nest int) byte {
	if r.left() == 0 {
		fail(api.ErrShort, r.at)
	}
	if nest >= api.MaxNest {
		fail(api.ErrLimit, r.at)
	}
	kind := r.b[r.at]
	if kind > api.KList {
		fail(api.ErrForm, r.at)
	}
	r.at++
	return kind
}

func (r *reader) number() uint64 {
	v, n, e := num.Take(r.b[r.at:])
	if e != api.OK {
		fail(e, r.at)
	}
	r.at += n
	return v
}

// harvest makes the item of a tree.
func harvest(n node) api.Item {
	if v, ok := n.(number); ok {
		return Num(uint64(v))
	}
	if s, ok := n.(text); ok {
		return Text(string(s))
	}
	var l []api.Item
	for _, part := range n.(list) {
		l = append(l, harvest(part))
	}
	return api.Item{Kind: api.KList, L: l}
}
