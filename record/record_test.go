package record_test

import (
	"bytes"
	"encoding/binary"
	"testing"

	"bosun/api"
	"bosun/crc"
	"bosun/record"
	"bosun/testkit"
)

type rec = record.Record

// Records whose checksums would be 2^32 - 1, and 0.
var (
	erasedSum = rec{Seq: 3195552269}
	zeroSum   = rec{Seq: 440043641}
)

func sample() rec {
	return rec{Seq: 0x04030201, Floor: 0x08070605, Bytes: 0x0201, Sum: 0x0d0c0b0a, Phase: record.Receiving, Done: 0x0403, Init: testkit.Sample(121, 1)}
}

func right() []rec {
	return []rec{
		{}, sample(), erasedSum, zeroSum,
		{Seq: 1<<32 - 1, Floor: 1<<32 - 1, Bytes: 4096, Sum: 1<<32 - 1, Phase: record.Copying, Done: 4096, Init: testkit.Sample(128, 2)},
		{Phase: record.Receiving}, {Phase: record.Copying, Done: 1}, {Phase: record.Receiving, Init: []byte{0}},
	}
}

func encoded(t *testing.T, r rec) []byte {
	t.Helper()
	b, e := r.Encode()
	if e != api.OK || len(b) != 160 {
		t.Fatal(r, len(b), e)
	}
	return b
}

// summed puts the right checksum at the end.
func summed(b []byte) []byte {
	sum := crc.Sum(b[:156])
	if sum == 1<<32-1 {
		sum = 0
	}
	binary.LittleEndian.PutUint32(b[156:], sum)
	return b
}

// P13.1
func TestRight(t *testing.T) {
	for _, r := range right() {
		if !r.Right() {
			t.Error(r, "is not valid")
		}
	}
	for _, r := range []rec{
		{Bytes: 4097}, {Bytes: 1<<32 - 1}, {Phase: 3}, {Phase: 255}, {Done: 1}, {Init: []byte{0}},
		{Phase: record.Receiving, Done: 4097}, {Phase: record.Copying, Done: 1<<32 - 1}, {Phase: record.Receiving, Init: make([]byte, 129)},
		{Phase: record.Copying, Init: make([]byte, 256)}, {Phase: record.Copying, Bytes: 4097},
	} {
		if r.Right() {
			t.Error(r, "is valid")
		}
		if b, e := r.Encode(); b != nil || e != api.ErrArg {
			t.Error(r, b, e)
		}
	}
}

// P13.1
func TestEncode(t *testing.T) {
	r := sample()
	b := encoded(t, r)
	want := []byte{66, 83, 78, 49, 1, 2, 3, 4, 5, 6, 7, 8, 1, 2, 0, 0, 10, 11, 12, 13, 1, 121, 0, 0, 3, 4, 0, 0}
	want = append(want, r.Init...)
	want = append(want, make([]byte, 156-len(want))...)
	sum := crc.Sum(want)
	want = append(want, byte(sum), byte(sum>>8), byte(sum>>16), byte(sum>>24))
	if !bytes.Equal(b, want) {
		t.Errorf("%d, want %d", b, want)
	}
	zero := append([]byte{66, 83, 78, 49}, make([]byte, 152)...)
	zero = append(zero, 0x4d, 0x8d, 0x61, 0x41)
	if b := encoded(t, rec{}); !bytes.Equal(b, zero) {
		t.Errorf("%d, want %d", b, zero)
	}
	b[28] ^= 1
	if !record.Same(r, sample()) {
		t.Error("the bytes share memory with the record")
	}
}

// P13.1: 0 stands in place of the checksum that erased words would have.
func TestErasedSum(t *testing.T) {
	for _, r := range []rec{erasedSum, zeroSum} {
		b := encoded(t, r)
		if !bytes.Equal(b[156:], []byte{0, 0, 0, 0}) {
			t.Error(b[156:])
		}
		if got, e := record.Parse(b); e != api.OK || !record.Same(got, r) {
			t.Error(got, e)
		}
		copy(b[156:], []byte{255, 255, 255, 255})
		if got, e := record.Parse(b); e != api.ErrSum || !record.Same(got, rec{}) {
			t.Error(got, e)
		}
	}
	if crc.Sum(encoded(t, erasedSum)[:156]) != 1<<32-1 || crc.Sum(encoded(t, zeroSum)[:156]) != 0 {
		t.Error("these are not the records that the test means")
	}
}

// P13.1, P13.2
func TestParse(t *testing.T) {
	for _, r := range right() {
		b := encoded(t, r)
		got, e := record.Parse(b)
		if e != api.OK || !record.Same(got, r) {
			t.Error(r, got, e)
		}
		if len(got.Init) > 0 {
			got.Init[0] ^= 1
			if b[28] != r.Init[0] {
				t.Error("the record shares memory with its bytes")
			}
		}
	}
}

// P13.1
func TestWrongBytes(t *testing.T) {
	good := encoded(t, sample())
	changed := func(at int, c byte) []byte { b := bytes.Clone(good); b[at] = c; return b }
	idle := encoded(t, rec{})
	idleDone, idleInit := bytes.Clone(idle), bytes.Clone(idle)
	idleDone[24], idleInit[21] = 1, 1
	full := encoded(t, rec{Phase: record.Receiving, Init: testkit.Sample(128, 3)})
	full[21] = 129
	for _, c := range []struct {
		what string
		b    []byte
		e    api.Errno
	}{
		{"no bytes", nil, api.ErrForm},
		{"a byte less", good[:159], api.ErrForm},
		{"a byte more", append(bytes.Clone(good), 0), api.ErrForm},
		{"another beginning", summed(changed(0, 67)), api.ErrForm},
		{"another beginning, and no checksum", changed(3, 50), api.ErrForm},
		{"erased", bytes.Repeat([]byte{255}, 160), api.ErrForm},
		{"zeros", make([]byte, 160), api.ErrForm},
		{"another Seq", changed(4, 9), api.ErrSum},
		{"another checksum", changed(159, good[159]^1), api.ErrSum},
		{"a phase that there is not, and another checksum", changed(20, 3), api.ErrSum},
		{"a phase that there is not", summed(changed(20, 3)), api.ErrForm},
		{"a first byte that is not 0", summed(changed(22, 1)), api.ErrForm},
		{"a second byte that is not 0", summed(changed(23, 128)), api.ErrForm},
		{"many Bytes", summed(changed(14, 1)), api.ErrForm},
		{"much Done", summed(changed(26, 1)), api.ErrForm},
		{"bytes behind the packet", summed(changed(21, 120)), api.ErrForm},
		{"the last byte behind the packet", summed(changed(155, 1)), api.ErrForm},
		{"a packet of 129 bytes", summed(full), api.ErrForm},
		{"a packet of 255 bytes", summed(changed(21, 255)), api.ErrForm},
		{"idle, with something done", summed(idleDone), api.ErrForm},
		{"idle, with a packet", summed(idleInit), api.ErrForm},
		{"idle, as it has to be", idle, api.OK},
	} {
		if r, e := record.Parse(c.b); e != c.e || !record.Same(r, rec{}) {
			t.Errorf("%s: %d, want %d", c.what, e, c.e)
		}
	}
}

// P13.2
func TestEachBit(t *testing.T) {
	for _, r := range right() {
		b := encoded(t, r)
		if bytes.Equal(b[156:], make([]byte, 4)) {
			continue
		}
		for i := range 8 * len(b) {
			b[i/8] ^= 1 << (i % 8)
			if _, e := record.Parse(b); e == api.OK {
				t.Errorf("%v, with bit %d inverted, is a record", r, i)
			}
			b[i/8] ^= 1 << (i % 8)
		}
	}
}

// P13.1
func TestSame(t *testing.T) {
	for i, r := range right() {
		for j, s := range right() {
			if record.Same(r, s) != (i == j) {
				t.Error(i, j)
			}
		}
	}
	for _, change := range []func(r *rec){
		func(r *rec) { r.Seq++ }, func(r *rec) { r.Floor++ }, func(r *rec) { r.Bytes++ }, func(r *rec) { r.Sum++ },
		func(r *rec) { r.Phase++ }, func(r *rec) { r.Done++ }, func(r *rec) { r.Init[120]++ }, func(r *rec) { r.Init = r.Init[:120] },
	} {
		r := sample()
		change(&r)
		if record.Same(r, sample()) || record.Same(sample(), r) {
			t.Error(r)
		}
	}
	if !record.Same(rec{}, rec{Init: []byte{}}) {
		t.Error("nil and empty")
	}
}
