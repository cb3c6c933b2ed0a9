// Package num is layer 1: see shared/doc/01-num.md.
package num

import (
	"math/bits"

	"stonecrop/api"
)

// manyFrom is the least number that takes more than one byte; first bytes from it on tell how many follow.
const manyFrom = 248

// Put copies b even where there is room behind it, so that whoever writes over the answer changes neither b nor an earlier answer.
func Put(b []byte, v uint64) []byte {
	n := Size(v)
	out := make([]byte, 0, len(b)+n)
	out = append(out, b...)
	if n == 1 {
		return append(out, byte(v))
	}
	follow := n - 1
	out = append(out, byte(manyFrom-1+follow))
	for i := range follow {
		out = append(out, byte(v>>(8*(follow-1-i))))
	}
	return out
}

// Take looks at the number only when the form is whole: ErrShort goes ahead of ErrForm.
func Take(b []byte) (v uint64, n int, e api.Errno) {
	if len(b) == 0 {
		return 0, 0, api.ErrShort
	}
	if b[0] < manyFrom {
		return uint64(b[0]), 1, api.OK
	}
	follow := int(b[0]) - (manyFrom - 1)
	if len(b)-1 < follow {
		return 0, 0, api.ErrShort
	}
	for i := range follow {
		v = v<<8 | uint64(b[1+i])
	}
	if Size(v) != 1+follow {
		return 0, 0, api.ErrForm
	}
	return v, 1 + follow, api.OK
}

func Size(v uint64) int {
	if v < manyFrom {
		return 1
	}
	return 1 + (bits.Len64(v)+7)/8
}
