package opcode_test

import (
	"bytes"
	"testing"

	"bosun/api"
	"bosun/opcode"
	"bosun/testkit"
)

type (
	request  = opcode.Request
	response = opcode.Response
)

func same(a, b request) bool {
	return a.Op == b.Op && a.Type == b.Type && a.Size == b.Size && bytes.Equal(a.Data, b.Data)
}

func sameResponse(a, b response) bool {
	return a.Op == b.Op && a.Result == b.Result && bytes.Equal(a.Data, b.Data)
}

// P16.1, P16.3
func TestRequests(t *testing.T) {
	most := testkit.Sample(64, 1)
	for _, c := range []struct {
		b []byte
		r request
	}{
		{[]byte{0}, request{Op: opcode.Version}},
		{[]byte{1, 2, 0, 4, 0, 0}, request{Op: opcode.Create, Type: 2, Size: 1024}},
		{[]byte{1, 255, 1, 2, 3, 4}, request{Op: opcode.Create, Type: 255, Size: 0x04030201}},
		{[]byte{2, 7, 8}, request{Op: opcode.Receipt, Size: 0x0807}},
		{[]byte{2, 255, 255}, request{Op: opcode.Receipt, Size: 65535}},
		{[]byte{3}, request{Op: opcode.Crc}},
		{[]byte{4}, request{Op: opcode.Execute}},
		{[]byte{6, 2}, request{Op: opcode.Select, Type: 2}},
		{[]byte{7}, request{Op: opcode.Mtu}},
		{[]byte{8, 0}, request{Op: opcode.Write, Data: []byte{0}}},
		{append([]byte{8}, most...), request{Op: opcode.Write, Data: most}},
		{[]byte{9, 7}, request{Op: opcode.Ping, Type: 7}},
		{[]byte{12}, request{Op: opcode.Abort}},
	} {
		kept := bytes.Clone(c.b)
		r, e := opcode.Parse(c.b)
		if e != api.OK || !same(r, c.r) {
			t.Errorf("Parse(%d): %v, %d", c.b, r, e)
		}
		if len(r.Data) > 0 {
			r.Data[0] ^= 1
		}
		b, e := c.r.Encode()
		if e != api.OK || !bytes.Equal(b, kept) || !bytes.Equal(c.b, kept) {
			t.Errorf("%v: %d, %d", c.r, b, e)
		}
	}
}

// P16.1
func TestWrongBytes(t *testing.T) {
	for _, c := range []struct {
		b []byte
		e api.Errno
	}{
		{nil, api.ErrCut},
		{[]byte{5}, api.ErrCode}, {[]byte{10, 1, 2}, api.ErrCode}, {[]byte{11}, api.ErrCode}, {[]byte{13}, api.ErrCode}, {[]byte{96}, api.ErrCode},
		{[]byte{255}, api.ErrCode}, {append([]byte{5}, make([]byte, 100)...), api.ErrCode},
		{[]byte{1}, api.ErrCut}, {[]byte{1, 2, 0, 4, 0}, api.ErrCut}, {[]byte{2}, api.ErrCut}, {[]byte{2, 1}, api.ErrCut},
		{[]byte{6}, api.ErrCut}, {[]byte{8}, api.ErrCut}, {[]byte{9}, api.ErrCut},
		{[]byte{0, 0}, api.ErrLong}, {[]byte{1, 2, 0, 4, 0, 0, 0}, api.ErrLong}, {[]byte{2, 1, 0, 0}, api.ErrLong}, {[]byte{3, 0}, api.ErrLong},
		{[]byte{4, 0}, api.ErrLong}, {[]byte{6, 1, 1}, api.ErrLong}, {[]byte{7, 0}, api.ErrLong}, {append([]byte{8}, make([]byte, 65)...), api.ErrLong},
		{[]byte{9, 7, 7}, api.ErrLong}, {[]byte{12, 0}, api.ErrLong},
	} {
		if r, e := opcode.Parse(c.b); e != c.e || !same(r, request{}) {
			t.Errorf("Parse(%d): %v, %d, want %d", c.b, r, e, c.e)
		}
	}
}

// P16.1
func TestWrongRequests(t *testing.T) {
	for _, r := range []request{
		{Op: 5}, {Op: 10}, {Op: 13}, {Op: 255},
		{Op: opcode.Version, Type: 1}, {Op: opcode.Version, Size: 1}, {Op: opcode.Version, Data: []byte{0}},
		{Op: opcode.Create, Data: []byte{0}}, {Op: opcode.Receipt, Type: 1}, {Op: opcode.Receipt, Size: 65536}, {Op: opcode.Receipt, Size: 1<<32 - 1}, {Op: opcode.Receipt, Data: []byte{0}},
		{Op: opcode.Crc, Type: 1}, {Op: opcode.Crc, Size: 1}, {Op: opcode.Execute, Data: []byte{0}}, {Op: opcode.Select, Size: 1}, {Op: opcode.Select, Data: []byte{0}},
		{Op: opcode.Mtu, Size: 256}, {Op: opcode.Write}, {Op: opcode.Write, Data: make([]byte, 65)}, {Op: opcode.Write, Data: []byte{1}, Type: 1}, {Op: opcode.Write, Data: []byte{1}, Size: 1},
		{Op: opcode.Ping, Size: 1}, {Op: opcode.Ping, Data: []byte{0}}, {Op: opcode.Abort, Type: 1},
	} {
		if b, e := r.Encode(); b != nil || e != api.ErrArg {
			t.Errorf("%v: %d, %d", r, b, e)
		}
	}
}

// P16.2, P16.3
func TestResponses(t *testing.T) {
	for _, c := range []struct {
		b []byte
		r response
	}{
		{[]byte{96, 9, 1, 7}, response{Op: opcode.Ping, Result: opcode.Success, Data: []byte{7}}},
		{[]byte{96, 0, 0}, response{}},
		{[]byte{96, 255, 254, 1, 2}, response{Op: 255, Result: 254, Data: []byte{1, 2}}},
	} {
		if b := c.r.Encode(); !bytes.Equal(b, c.b) {
			t.Errorf("%v: %d", c.r, b)
		}
		r, e := opcode.Answered(c.b)
		if e != api.OK || !sameResponse(r, c.r) {
			t.Errorf("%d: %v, %d", c.b, r, e)
		}
		if len(r.Data) > 0 {
			kept := c.b[3]
			r.Data[0] ^= 1
			if c.b[3] != kept {
				t.Error("a response shares memory with its bytes")
			}
		}
	}
	for _, c := range []struct {
		b []byte
		e api.Errno
	}{{nil, api.ErrCut}, {[]byte{96}, api.ErrCut}, {[]byte{96, 1}, api.ErrCut}, {[]byte{95, 1}, api.ErrCut}, {[]byte{95, 1, 1}, api.ErrForm}, {[]byte{0, 96, 1, 1}, api.ErrForm}} {
		if r, e := opcode.Answered(c.b); e != c.e || !sameResponse(r, response{}) {
			t.Errorf("%d: %v, %d, want %d", c.b, r, e, c.e)
		}
	}
	data := make([]byte, 1, 9)
	_ = append(response{Data: data}.Encode(), 1)
	if !bytes.Equal(data[:9], make([]byte, 9)) {
		t.Error("an argument was changed")
	}
}

// P16.2
func TestNumbers(t *testing.T) {
	if b := opcode.Numbers(); len(b) != 0 {
		t.Error(b)
	}
	if b := opcode.Numbers(1, 0x05040302, 1<<32-1); !bytes.Equal(b, []byte{1, 0, 0, 0, 2, 3, 4, 5, 255, 255, 255, 255}) {
		t.Error(b)
	}
}

// The numbers of operations and results, which the bytes on the line depend on.
func TestConstants(t *testing.T) {
	ops := []byte{opcode.Version, opcode.Create, opcode.Receipt, opcode.Crc, opcode.Execute, opcode.Select, opcode.Mtu, opcode.Write, opcode.Ping, opcode.Abort}
	results := []byte{opcode.Success, opcode.Unknown, opcode.Param, opcode.Resources, opcode.Object, opcode.Type, opcode.NotNow, opcode.Failed}
	if !bytes.Equal(ops, []byte{0, 1, 2, 3, 4, 6, 7, 8, 9, 12}) || !bytes.Equal(results, []byte{1, 2, 3, 4, 5, 7, 8, 10}) {
		t.Error(ops, results)
	}
}
