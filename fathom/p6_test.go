package fathom

import (
	"slices"
	"testing"

	"fathom/api"
)

const (
	least = -1 << 63
	most  = 1<<63 - 1
)

// checkLoad asks for the error, and for code or none beside it.
func checkLoad(t *testing.T, l instrs, entry, cells int, want api.Errno) {
	t.Helper()
	c, e := Load(l, entry, cells)
	if e != want || (c != nil) != (want == api.OK) {
		t.Errorf("P6: Load of %s, entry %d, %d cells: code %v, %d, want %d", brief(l), entry, cells, c != nil, e, want)
	}
}

func TestP6Length(t *testing.T) {
	many := slices.Repeat(instrs{halt}, 6000)
	checkLoad(t, nil, 0, 0, api.ErrCode)
	checkLoad(t, instrs{}, 0, 0, api.ErrCode)
	checkLoad(t, many[:0], 0, 0, api.ErrCode)
	checkLoad(t, many[:1], 0, 0, api.OK)
	checkLoad(t, many[:4999], 0, 0, api.OK)
	checkLoad(t, many[:5000], 0, 0, api.OK)
	checkLoad(t, many[:5001], 0, 0, api.ErrCode)
	checkLoad(t, many, 0, 0, api.ErrCode)
}

func TestP6Operators(t *testing.T) {
	for n := -70; n < 200; n++ {
		want := api.ErrCode
		if n >= 0 && n <= 32 || n >= 40 && n <= 59 {
			want = api.OK
		}
		checkLoad(t, instrs{op(n), halt}, 0, 0, want)
		checkLoad(t, instrs{halt, op(n), halt}, 0, 0, want)
	}
	for _, n := range []int{least, least + 1, -1, 33, 39, 60, 64, 256, 1 << 32, 1<<32 + api.Add, most} {
		checkLoad(t, instrs{op(n), halt}, 0, 0, api.ErrCode)
		checkLoad(t, instrs{halt, op(n)}, 0, 0, api.ErrCode)
	}
}

func TestP6Numbers(t *testing.T) {
	for n := range api.LastSuper + 1 {
		if n > api.LastBase && n < api.LitAdd {
			continue
		}
		names := n == api.Jump || n == api.Jumpz || n == api.Call || n == api.Loop
		for _, arg := range []int64{least, -1, 0, 1, 2, 3, 4, 5000, 1 << 32, 1<<32 + 1, most} {
			want := api.OK
			if names && (arg < 0 || arg > 2) {
				want = api.ErrCode
			}
			checkLoad(t, instrs{halt, to(n, arg), halt}, 0, 0, want)
			checkLoad(t, instrs{to(n, arg), halt, halt}, 2, 0, want)
		}
	}
	for _, arg := range []int64{-1, 1} {
		checkLoad(t, instrs{to(api.Jump, arg)}, 0, 0, api.ErrCode)
	}
	far := slices.Repeat(instrs{halt}, 5000)
	far[17] = to(api.Call, 4999)
	checkLoad(t, far, 0, 0, api.OK)
	far[17] = to(api.Call, 5000)
	checkLoad(t, far, 0, 0, api.ErrCode)
}

func TestP6LastInstruction(t *testing.T) {
	for n := range api.LastSuper + 1 {
		want := api.ErrCode
		if n == api.Jump || n == api.Ret || n == api.Halt {
			want = api.OK
		}
		checkLoad(t, instrs{op(n)}, 0, 0, want)
		checkLoad(t, instrs{halt, ret, to(n, 1)}, 0, 0, want)
	}
}

func TestP6Entry(t *testing.T) {
	for _, size := range []int{1, 2, 5000} {
		l := slices.Repeat(instrs{halt}, size)
		for _, entry := range []int{0, size - 1} {
			checkLoad(t, l, entry, 0, api.OK)
		}
		for _, entry := range []int{least, -5000, -1, size, size + 1, 5001, 1 << 32, most} {
			checkLoad(t, l, entry, 0, api.ErrCode)
		}
	}
}

func TestP6Cells(t *testing.T) {
	for _, n := range []int{0, 1, 999, 1000} {
		c, e := Load(instrs{halt}, 0, n)
		if c == nil || e != api.OK {
			t.Fatalf("P6: %d cells: code %v, %d", n, c != nil, e)
		}
		if o := c.Run(wide, 1); o.Err != api.OK || !slices.Equal(o.Cells, make([]int64, n)) {
			t.Errorf("P6: %d cells: a run has %d, error %d", n, len(o.Cells), o.Err)
		}
	}
	for _, n := range []int{least, -1000, -1, 1001, 1002, 5000, 1 << 32, most} {
		checkLoad(t, instrs{halt}, 0, n, api.ErrCode)
	}
}

func TestP6AllAtOnceIsOneError(t *testing.T) {
	checkLoad(t, nil, -1, -1, api.ErrCode)
	checkLoad(t, instrs{op(-1), to(api.Jump, 9), lit(1)}, 7, 2000, api.ErrCode)
}

func TestP6WhatWasLoadedIsListed(t *testing.T) {
	var every instrs
	for n := range api.LastSuper + 1 {
		if n <= api.LastBase || n >= api.LitAdd {
			every = append(every, to(n, int64(n%7)))
		}
	}
	every = append(every, to(api.Halt, least))
	for _, l := range []instrs{{halt}, {to(api.Halt, -1)}, {to(api.Ret, most)}, {to(api.Jump, 0)}, {lit(least), to(api.Dup, 5), to(api.LitAdd, most), to(api.Jump, 1)}, every} {
		for entry := range l {
			c, e := Load(l, entry, 3)
			if c == nil || e != api.OK {
				t.Fatalf("P6: %v, entry %d: code %v, %d", l, entry, c != nil, e)
			}
			if got, at := c.List(); !slices.Equal(got, l) || at != entry {
				t.Errorf("P4: %v, entry %d: %v, %d", l, entry, got, at)
			}
		}
	}
}

func TestP6ARunBeginsAtEntry(t *testing.T) {
	l := instrs{lit(10), lit(11), lit(12), halt, lit(14), halt}
	for entry, want := range [][]int64{{10, 11, 12}, {11, 12}, {12}, nil, {14}, nil} {
		c, _ := Load(l, entry, 0)
		if o := c.Run(wide, 10); o.Err != api.OK || !slices.Equal(o.Stack, want) || o.Steps != len(want)+1 {
			t.Errorf("P6: entry %d: %v, want %v", entry, o, want)
		}
	}
}
