package msg

import (
	"bytes"

	"stonecrop/api"
	"stonecrop/codec"
	"stonecrop/crc"
)

// headSize is how many bytes stand ahead of an item's form: the version, and the sum.
const headSize = 5

func Frame(version byte, x api.Item) ([]byte, api.Errno) {
	rest, e := codec.Put(x)
	if e != api.OK {
		return nil, e
	}
	b := make([]byte, 0, headSize+len(rest))
	b = append(b, version)
	b = append(b, sum(rest)...)
	return append(b, rest...), api.OK
}

// Open looks at the version ahead of the sum: a program that is too old for a message can't know how its sum is told.
func Open(version byte, b []byte) (api.Item, api.Errno) {
	switch {
	case len(b) < headSize:
		return api.Item{}, api.ErrShort
	case b[0] > version:
		return api.Item{}, api.ErrTooNew
	case b[0] < version:
		return api.Item{}, api.ErrForm
	case !bytes.Equal(b[1:headSize], sum(b[headSize:])):
		return api.Item{}, api.ErrSum
	}
	x, e, _ := codec.Get(b[headSize:])
	return x, e
}

// sum is the rest's sum as it stands in a message, the highest byte first.
func sum(rest []byte) []byte {
	s := crc.Sum(rest)
	return []byte{byte(s >> 24), byte(s >> 16), byte(s >> 8), byte(s)}
}
