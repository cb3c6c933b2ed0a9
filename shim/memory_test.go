package shim_test

import (
	"bytes"
	"runtime"
	"slices"
	"testing"

	"stonecrop/api"
	"stonecrop/codec"
	"stonecrop/msg"
	"stonecrop/shim"
)

// several are right, with an old form and without one, or not right.
func several() []api.Msg {
	l := slices.Concat(bases(), []api.Msg{{}, longest()})
	for at, m := range append(onlyNew(), wrong()...) {
		if at%20 == 0 {
			l = append(l, m)
		}
	}
	return l
}

// room is m with more memory behind its Deps, which holds ids that nobody else has, and its own.
func room(m api.Msg) api.Msg {
	m.Attr.Deps = append(slices.Clone(m.Attr.Deps), id(-7, -7), m.Id, id(-7, -5))[:len(m.Attr.Deps)]
	return m
}

func untouched(m, was api.Msg) bool {
	n := len(m.Attr.Deps)
	return msg.Same(m, was) && slices.Equal(m.Attr.Deps[n:n+3], []api.Id{id(-7, -7), was.Id, id(-7, -5)})
}

// over writes another thing over all of l, and behind it as far as its memory goes.
func over[T any](l []T, v T) {
	l = l[:cap(l)]
	for at := range l {
		l[at] = v
	}
}

// sendings are the calls that take a message.
func sendings() map[string]func(api.Msg) ([]byte, api.Errno) {
	return map[string]func(api.Msg) ([]byte, api.Errno){
		"Down":       shim.Down,
		"For of V1":  func(m api.Msg) ([]byte, api.Errno) { return shim.For(m, api.V1) },
		"For of V2":  func(m api.Msg) ([]byte, api.Errno) { return shim.For(m, api.V2) },
		"For of 3":   func(m api.Msg) ([]byte, api.Errno) { return shim.For(m, 3) },
		"For of -99": func(m api.Msg) ([]byte, api.Errno) { return shim.For(m, -99) },
	}
}

// P11.1, P11.2, R4, R6: Down and For leave the message as it was, with what lies behind it; the answer is new memory, and the same each time.
func TestSendingMemory(t *testing.T) {
	for name, send := range sendings() {
		for _, one := range several() {
			m := room(one)
			want, wantE := send(one)
			b, e := send(m)
			second, _ := send(m)
			if e != wantE || !bytes.Equal(b, want) || !bytes.Equal(second, want) {
				t.Fatalf("%s of %s has two answers, %d and %d, or what lies behind was read", name, short(one), e, wantE)
			}
			over(second, 0xee)
			if !untouched(m, one) || !bytes.Equal(b, want) {
				t.Fatalf("%s of %s: it, or writing over its answer, changed something", name, short(one))
			}
			over(m.Attr.Deps, id(-9, -9))
			if !bytes.Equal(b, want) {
				t.Fatalf("%s of %s: its answer changed with what was handed in", name, short(one))
			}
		}
	}
}

// readings are the calls that take bytes.
func readings() map[string]func([]byte) (api.Msg, api.Errno) {
	return map[string]func([]byte) (api.Msg, api.Errno){
		"Up":         shim.Up,
		"Read by V1": func(b []byte) (api.Msg, api.Errno) { return shim.Read(b, api.V1) },
		"Read by V2": func(b []byte) (api.Msg, api.Errno) { return shim.Read(b, api.V2) },
		"Read by 3":  func(b []byte) (api.Msg, api.Errno) { return shim.Read(b, 3) },
	}
}

// bytesOf are the forms of a message, as far as it has them, and others.
func bytesOf(t *testing.T, m api.Msg) [][]byte {
	t.Helper()
	old, _ := shim.Down(m)
	newer, _ := msg.Put(m)
	return [][]byte{old, newer, framed(t, 1, newItem(m)), framed(t, 1, codec.List(oldItem(m))), framed(t, 3, oldItem(m)), {1, 2, 3}}
}

// P11.1, P11.2, R4, R6: Up and Read leave the bytes as they were, with what lies behind them; the answer is new memory, and the same each time.
func TestReadingMemory(t *testing.T) {
	behind := bytes.Repeat([]byte{0x55}, 64)
	for name, read := range readings() {
		for _, one := range several() {
			for _, form := range bytesOf(t, one) {
				whole := append(slices.Clone(form), behind...)
				b := whole[:len(form)]
				want, wantE := read(slices.Clone(form))
				m, e := read(b)
				second, _ := read(b)
				if e != wantE || !msg.Same(m, want) || !msg.Same(second, want) {
					t.Fatalf("%s of % x has two answers, %d and %d, or what lies behind was read", name, form, e, wantE)
				}
				over(second.Attr.Deps, id(-9, -9))
				if !bytes.Equal(whole, append(slices.Clone(form), behind...)) || !msg.Same(m, want) {
					t.Fatalf("%s of % x: it, or writing over its answer, changed something", name, form)
				}
				over(whole, 0xee)
				if !msg.Same(m, want) {
					t.Fatalf("%s of % x: its answer changed with what was handed in", name, form)
				}
			}
		}
	}
}

// R1: what is above the limits is refused ahead of making as much of it.
func TestNothingAboveTheLimitIsMade(t *testing.T) {
	m := full(api.MCom)
	m.Attr = bySeq(1, row(1<<18)...)
	long, longNew := withSum(1, string(make([]byte, 1<<22))), withSum(2, string(make([]byte, 1<<22)))
	var before, after runtime.MemStats
	runtime.ReadMemStats(&before)
	_, e := shim.Down(m)
	_, e2 := shim.For(m, api.V2)
	_, e3 := shim.For(m, 3)
	_, e4 := shim.Up(long)
	_, e5 := shim.Up(longNew)
	_, e6 := shim.Read(longNew, api.V2)
	_, e7 := shim.Read(long, 3)
	runtime.ReadMemStats(&after)
	got := []api.Errno{e, e2, e3, e4, e5, e6, e7}
	if !slices.Equal(got, []api.Errno{api.ErrForm, api.ErrForm, api.ErrArg, api.ErrLimit, api.ErrTooNew, api.ErrLimit, api.ErrArg}) {
		t.Errorf("above the limit: %v", got)
	}
	if made := after.TotalAlloc - before.TotalAlloc; made > 1<<16 {
		t.Errorf("%d bytes of memory for what is refused", made)
	}
}
