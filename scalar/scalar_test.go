package scalar_test

import (
	"math"
	"testing"

	"bosun/api"
	"bosun/scalar"
)

var (
	zero  = scalar.Num{}
	one   = scalar.Num{1}
	order = scalar.Num{0x5812631a5cf5d3ed, 0x14def9dea2f79cd6, 0, 0x1000000000000000}
	last  = scalar.Num{0x5812631a5cf5d3ec, 0x14def9dea2f79cd6, 0, 0x1000000000000000}
)

// bytesOf is a number as thirty-two bytes, whatever it is.
func bytesOf(a scalar.Num) [32]byte {
	var b [32]byte
	for i := range b {
		b[i] = byte(a[i/8] >> (i % 8 * 8))
	}
	return b
}

func joined(l ...scalar.Num) []byte {
	var b []byte
	for _, a := range l {
		x := bytesOf(a)
		b = append(b, x[:]...)
	}
	return b
}

// P6.1
func TestOrder(t *testing.T) {
	if scalar.Order() != order || scalar.Order().Encode() != bytesOf(order) {
		t.Error(scalar.Order())
	}
	b := scalar.Order().Encode()
	if scalar.Reduce(b[:]) != zero || scalar.Add(scalar.Order(), scalar.Order()) != zero || scalar.Mul(scalar.Order(), last) != zero || scalar.Add(order, one) != one {
		t.Error("the order is not 0")
	}
}

// P6.1
func TestBytes(t *testing.T) {
	for _, c := range cases {
		b := bytesOf(c.a)
		if c.a.Encode() != b {
			t.Errorf("%x: %x", c.a, c.a.Encode())
		}
		if a, e := scalar.Decode(b); a != c.a || e != api.OK {
			t.Errorf("%x: %x, %d", b, a, e)
		}
	}
	for _, a := range []scalar.Num{order, {order[0] + 1, order[1], order[2], order[3]}, {0, 0, 1, 1 << 60}, {0, 0, 0, 1 << 61}, {0, 0, 0, 1 << 63}, {^uint64(0), ^uint64(0), ^uint64(0), ^uint64(0)}} {
		if n, e := scalar.Decode(bytesOf(a)); n != zero || e != api.ErrForm {
			t.Errorf("%x: %x, %d", a, n, e)
		}
	}
	if a, e := scalar.Decode(bytesOf(last)); a != last || e != api.OK {
		t.Errorf("%x, %d", a, e)
	}
}

// P6.1
func TestBit(t *testing.T) {
	a := scalar.Num{0x8000000000000001, 2, 0, 0xa000000000000000}
	set := map[int]bool{0: true, 63: true, 65: true, 253: true, 255: true}
	for i := -3; i < 400; i++ {
		if a.Bit(i) != set[i] {
			t.Error("bit", i)
		}
	}
	all := scalar.Num{^uint64(0), ^uint64(0), ^uint64(0), ^uint64(0)}
	for _, i := range []int{math.MinInt, -64, -1, 256, 257, math.MaxInt} {
		if all.Bit(i) {
			t.Error("bit", i)
		}
	}
}

// P6.2
func TestKnown(t *testing.T) {
	for _, c := range cases {
		if s := scalar.Add(c.a, c.b); s != c.sum {
			t.Errorf("%x + %x: %x, want %x", c.a, c.b, s, c.sum)
		}
		if s := scalar.Mul(c.a, c.b); s != c.product {
			t.Errorf("%x * %x: %x, want %x", c.a, c.b, s, c.product)
		}
		if s := scalar.Reduce(joined(c.a, c.b)); s != c.wide {
			t.Errorf("Reduce of %x and %x: %x, want %x", c.a, c.b, s, c.wide)
		}
	}
}

// P6.2
func TestReduce(t *testing.T) {
	if scalar.Reduce(nil) != zero || scalar.Reduce(make([]byte, 100)) != zero {
		t.Error("no bytes")
	}
	given := []byte{1, 2, 3}
	if scalar.Reduce(given) != (scalar.Num{0x030201}) || string(given) != "\x01\x02\x03" {
		t.Error("three bytes")
	}
	// 256 to the n: a byte 1 behind n bytes 0.
	power := one
	for n := range 100 {
		if got := scalar.Reduce(append(make([]byte, n), 1)); got != power {
			t.Fatalf("256 to the %d: %x, want %x", n, got, power)
		}
		if got := scalar.Reduce(append(make([]byte, n), 1, 0, 0)); got != power {
			t.Fatalf("256 to the %d, and bytes 0: %x, want %x", n, got, power)
		}
		power = scalar.Mul(power, scalar.Num{256})
	}
	for _, c := range []struct{ a, want scalar.Num }{{order, zero}, {last, last}, {scalar.Num{order[0] + 5, order[1], order[2], order[3]}, scalar.Num{5}}} {
		if got := scalar.Reduce(joined(c.a)); got != c.want {
			t.Errorf("%x: %x, want %x", c.a, got, c.want)
		}
	}
}

// P6.3
func TestTwoNumbers(t *testing.T) {
	shift := scalar.Reduce(append(make([]byte, 32), 1)) // 2^256
	for _, c := range cases {
		for _, d := range cases {
			if scalar.Reduce(joined(c.a, d.a)) != scalar.Add(c.a, scalar.Mul(shift, d.a)) {
				t.Fatalf("%x, %x", c.a, d.a)
			}
		}
	}
}

var cases = []struct{ a, b, sum, product, wide scalar.Num }{ // wide is a and 2^256 times b
	{scalar.Num{0xa22ba4d70746a9ba, 0x3eb17c275c832a51, 0x6e0012819a0c1b76, 0xb6fa7614de8344e}, scalar.Num{0x0, 0x0, 0x0, 0x0}, scalar.Num{0xa22ba4d70746a9ba, 0x3eb17c275c832a51, 0x6e0012819a0c1b76, 0xb6fa7614de8344e}, scalar.Num{0x0, 0x0, 0x0, 0x0}, scalar.Num{0xa22ba4d70746a9ba, 0x3eb17c275c832a51, 0x6e0012819a0c1b76, 0xb6fa7614de8344e}},
	{scalar.Num{0xc16cf5c51801fd9a, 0xb3642b1932793637, 0xcbe19514a28a0aaa, 0x31f231c4a8b0188}, scalar.Num{0x51c342505f877031, 0x59a91e1c527e279, 0x7d24b39645cf8aa4, 0x656e451cd4a5557}, scalar.Num{0x1330381577896dcb, 0xb8febcfaf7a118b1, 0x490648aae859954e, 0x976076e17d556e0}, scalar.Num{0xec020f2382b16f0f, 0x938a5d11cdfb8a86, 0xef86c10c8950d2c2, 0x4653beba15ecc9b}, scalar.Num{0x90dc2b98d748a089, 0xe340b42ea238986c, 0xa5c54969cdef787f, 0xab8daf8b57b3474}},
	{scalar.Num{0xffffffffffffffff, 0x0, 0x0, 0x0}, scalar.Num{0x9bb38b9c1de83405, 0x44941663a9a967c1, 0xb8109a544ff1a001, 0xc276061323bbeaf}, scalar.Num{0x9bb38b9c1de83404, 0x44941663a9a967c2, 0xb8109a544ff1a001, 0xc276061323bbeaf}, scalar.Num{0xa255c78a31313489, 0x8f78d9f97a2dc069, 0x7ca8e36eac477339, 0xbe939f31db5e151}, scalar.Num{0x9a975d6c9e8fb9b3, 0xc52ac0fbee54134c, 0x9ba0d383e4912c69, 0x6895130470eab05}},
	{scalar.Num{0x0, 0x0, 0x0, 0x0}, scalar.Num{0xffffffffffffffff, 0x0, 0x0, 0x0}, scalar.Num{0xffffffffffffffff, 0x0, 0x0, 0x0}, scalar.Num{0x0, 0x0, 0x0, 0x0}, scalar.Num{0xd93894c02c5312bd, 0xe1a8662303142b6b, 0xb2106215d086329b, 0xffffffffffffffe}},
	{scalar.Num{0xffffffffffffffff, 0xffffffffffffffff, 0xffffffffffffffff, 0xfffffffffffffff}, scalar.Num{0x1, 0x0, 0x0, 0x0}, scalar.Num{0x0, 0x0, 0x0, 0x1000000000000000}, scalar.Num{0xffffffffffffffff, 0xffffffffffffffff, 0xffffffffffffffff, 0xfffffffffffffff}, scalar.Num{0x7ed9ce5a30a2c12f, 0xb2106215d086329a, 0xfffffffffffffffe, 0xfffffffffffffff}},
	{scalar.Num{0x2c09318d2e7ae9f6, 0xa6f7cef517bce6b, 0x0, 0x800000000000000}, scalar.Num{0x92e5dfe8cb1855fe, 0x14a03569d26b9496, 0xc320a4737c2b3abe, 0x12da6e642f9a039}, scalar.Num{0xbeef1175f9933ff4, 0x1f0fb25923e76301, 0xc320a4737c2b3abe, 0x92da6e642f9a039}, scalar.Num{0xe9f7325f769a8ee, 0xa8edf29b9c1d28b, 0x1e6fadc641ea62a1, 0xf692c8cde832fe3}, scalar.Num{0x97c0a4c86395dcff, 0x9aadd6dee7bc25ae, 0x8cc633d7674a6400, 0x57315af6f242d14}},
	{scalar.Num{0x1e9d19e796d2f9e0, 0x800a4c9416f5c1ee, 0xadb9ce1be14cd8df, 0x65f3c568677a5f2}, scalar.Num{0xc16cf5c51801fd9a, 0xb3642b1932793637, 0xcbe19514a28a0aaa, 0x31f231c4a8b0188}, scalar.Num{0xe00a0facaed4f77a, 0x336e77ad496ef825, 0x799b633083d6e38a, 0x97e5f72d102a77b}, scalar.Num{0xfc93a44cadb624e1, 0x6ea0f4d108afe9ba, 0x2ef7d5e4c952a12d, 0x69c10730768204f}, scalar.Num{0x88cb716da974b38d, 0xd9a5f73be0da2761, 0x7478b1bedb223552, 0x5fd52b0d732ab0a}},
	{scalar.Num{0x2c09318d2e7ae9f7, 0xa6f7cef517bce6b, 0x0, 0x800000000000000}, scalar.Num{0x5812631a5cf5d3ec, 0x14def9dea2f79cd6, 0x0, 0x1000000000000000}, scalar.Num{0x2c09318d2e7ae9f6, 0xa6f7cef517bce6b, 0x0, 0x800000000000000}, scalar.Num{0x2c09318d2e7ae9f6, 0xa6f7cef517bce6b, 0x0, 0x800000000000000}, scalar.Num{0xad2f6332fdd828c7, 0x585f1ad980f59bd0, 0x1, 0x800000000000000}},
	{scalar.Num{0x5812631a5cf5d3ec, 0x14def9dea2f79cd6, 0x0, 0x1000000000000000}, scalar.Num{0x8ec86d6c5539b994, 0xabddfcd9e7893d2b, 0x9e5dc5989ec9b42f, 0xbfcfc934e5e2d41}, scalar.Num{0x8ec86d6c5539b993, 0xabddfcd9e7893d2b, 0x9e5dc5989ec9b42f, 0xbfcfc934e5e2d41}, scalar.Num{0xc949f5ae07bc1a59, 0x6900fd04bb6e5faa, 0x61a23a6761364bd0, 0x403036cb1a1d2be}, scalar.Num{0xe0efa2eb03236a86, 0xe3ee950a514c4fff, 0x9041baea4531bcff, 0x26ea5f2b5fc3bf5}},
	{scalar.Num{0x1, 0x0, 0x0, 0x0}, scalar.Num{0xa22ba4d70746a9ba, 0x3eb17c275c832a51, 0x6e0012819a0c1b76, 0xb6fa7614de8344e}, scalar.Num{0xa22ba4d70746a9bb, 0x3eb17c275c832a51, 0x6e0012819a0c1b76, 0xb6fa7614de8344e}, scalar.Num{0xa22ba4d70746a9ba, 0x3eb17c275c832a51, 0x6e0012819a0c1b76, 0xb6fa7614de8344e}, scalar.Num{0xe726c3e5f641d24f, 0x59ddeb18a86ba7b5, 0x80a6b975a4ffe42c, 0x1dfb88d9b822cd6}},
	{scalar.Num{0x51c342505f877031, 0x59a91e1c527e279, 0x7d24b39645cf8aa4, 0x656e451cd4a5557}, scalar.Num{0x2c09318d2e7ae9f7, 0xa6f7cef517bce6b, 0x0, 0x800000000000000}, scalar.Num{0x7dcc73dd8e025a28, 0x100a0ed116a3b0e4, 0x7d24b39645cf8aa4, 0xe56e451cd4a5557}, scalar.Num{0xd4ead2b55e3ea20f, 0xd3cc5e0340fbfa7, 0xbe9259cb22e7c552, 0xb2b7228e6a52aab}, scalar.Num{0x9130297d77d8d0c9, 0x5ea2c2ecad6afbc6, 0x7d24b39645cf8aa3, 0x656e451cd4a5557}},
	{scalar.Num{0x5812631a5cf5d3eb, 0x14def9dea2f79cd6, 0x0, 0x1000000000000000}, scalar.Num{0x0, 0x0, 0x0, 0x1000000000000000}, scalar.Num{0xfffffffffffffffe, 0xffffffffffffffff, 0xffffffffffffffff, 0xfffffffffffffff}, scalar.Num{0xb024c634b9eba7da, 0x29bdf3bd45ef39ac, 0x0, 0x0}, scalar.Num{0xd6cd05405432c2a1, 0x6b5a2d8386929507, 0xdceec73d217f5be6, 0xb399411b7c309a3}},
	{scalar.Num{0x8701f8ad609d99cc, 0x4a05ae8763a05b05, 0xadc1383d20783d88, 0xfa3e76bfff80b3b}, scalar.Num{0xdf5ca32ebad5ccc2, 0xe91b4ad169fc5360, 0x8a0c510089ce5ef7, 0x303c521ae9af169}, scalar.Num{0xe4c38c1be7d92a1, 0x1e41ff7a2aa51190, 0x37cd893daa469c80, 0x2a7ac8dae92fca5}, scalar.Num{0x2b5696999f3aa8b0, 0x5d3f560acbd557c5, 0x47ee6dfee5dc72b3, 0x6d183a0e7b1801a}, scalar.Num{0xc8f0a7f029b4dfa8, 0x32aad28cfeefcbdc, 0xdd4592dd27f2fca8, 0x76a30432dc5ae04}},
	{scalar.Num{0x0, 0x1, 0x0, 0x0}, scalar.Num{0x1e9d19e796d2f9e0, 0x800a4c9416f5c1ee, 0xadb9ce1be14cd8df, 0x65f3c568677a5f2}, scalar.Num{0x1e9d19e796d2f9e0, 0x800a4c9416f5c1ef, 0xadb9ce1be14cd8df, 0x65f3c568677a5f2}, scalar.Num{0x4953467a2c14481e, 0x1b25af6494fb8f30, 0x77ba743ff907d99b, 0xdb9ce1be14cd8df}, scalar.Num{0x1cc5797bd1b302ac, 0xd74c976650774f81, 0x3443d2fc565cd826, 0xbe3c2d7951c29b5}},
	{scalar.Num{0x0, 0x0, 0x0, 0x1000000000000000}, scalar.Num{0x0, 0x1, 0x0, 0x0}, scalar.Num{0x0, 0x1, 0x0, 0x1000000000000000}, scalar.Num{0x5812631a5cf5d3ed, 0xbccc96c44601c8e9, 0xeb2106215d086329, 0xfffffffffffffff}, scalar.Num{0x0, 0x7ed9ce5a30a2c130, 0xb2106215d086329a, 0xffffffffffffffe}},
	{scalar.Num{0x8ec86d6c5539b994, 0xabddfcd9e7893d2b, 0x9e5dc5989ec9b42f, 0xbfcfc934e5e2d41}, scalar.Num{0x0, 0x0, 0x1, 0x0}, scalar.Num{0x8ec86d6c5539b994, 0xabddfcd9e7893d2b, 0x9e5dc5989ec9b430, 0xbfcfc934e5e2d41}, scalar.Num{0xf300185967c2c47b, 0xe2626edc11e9f6e9, 0xcb8dc7e663576ae3, 0xc3aafb95eb4361a}, scalar.Num{0xc84a8e95f5641c05, 0x62287c1d45d91ac0, 0x1d3793f2cf6c7561, 0xe0d5ea91ee45fdc}},
	{scalar.Num{0x92e5dfe8cb1855fe, 0x14a03569d26b9496, 0xc320a4737c2b3abe, 0x12da6e642f9a039}, scalar.Num{0x2c09318d2e7ae9f6, 0xa6f7cef517bce6b, 0x0, 0x800000000000000}, scalar.Num{0xbeef1175f9933ff4, 0x1f0fb25923e76301, 0xc320a4737c2b3abe, 0x92da6e642f9a039}, scalar.Num{0xe9f7325f769a8ee, 0xa8edf29b9c1d28b, 0x1e6fadc641ea62a1, 0xf692c8cde832fe3}, scalar.Num{0x5378f8bbb2c6f566, 0xbb98045eea287b49, 0xc320a4737c2b3abe, 0x12da6e642f9a039}},
	{scalar.Num{0x9bb38b9c1de83405, 0x44941663a9a967c1, 0xb8109a544ff1a001, 0xc276061323bbeaf}, scalar.Num{0x8701f8ad609d99cc, 0x4a05ae8763a05b05, 0xadc1383d20783d88, 0xfa3e76bfff80b3b}, scalar.Num{0xcaa3212f218ff9e4, 0x79bacb0c6a5225f0, 0x65d1d2917069dd89, 0xbcb47cd3233c9eb}, scalar.Num{0x4d59887be076a6af, 0x90c80914ec9d4673, 0x7c5e919318c6e815, 0x80dc48f6747b4e5}, scalar.Num{0x8014270f77b3ebbf, 0x795862e2e999b324, 0xa2cd953711335f3f, 0xb9ccd5369407f36}},
	{scalar.Num{0x2f7307300dc749b0, 0x980bcb4c6c426e40, 0xff9264ffbf0e5eee, 0x31247ec65d3e198}, scalar.Num{0x2, 0x0, 0x0, 0x0}, scalar.Num{0x2f7307300dc749b2, 0x980bcb4c6c426e40, 0xff9264ffbf0e5eee, 0x31247ec65d3e198}, scalar.Num{0x5ee60e601b8e9360, 0x30179698d884dc80, 0xff24c9ff7e1cbddd, 0x6248fd8cba7c331}, scalar.Num{0x2d26a3e46f0ccc10, 0xfc2c8f780d4ed375, 0xff9264ffbf0e5eeb, 0x31247ec65d3e198}},
	{scalar.Num{0x2, 0x0, 0x0, 0x0}, scalar.Num{0xffffffffffffffff, 0xffffffffffffffff, 0xffffffffffffffff, 0xfffffffffffffff}, scalar.Num{0x1, 0x0, 0x0, 0x1000000000000000}, scalar.Num{0xa7ed9ce5a30a2c11, 0xeb2106215d086329, 0xffffffffffffffff, 0xfffffffffffffff}, scalar.Num{0x57f336e623900175, 0xb949cb6db60c626d, 0xdceec73d217f5be7, 0xb399411b7c309a3}},
	{scalar.Num{0x0, 0x0, 0x1, 0x0}, scalar.Num{0x5812631a5cf5d3eb, 0x14def9dea2f79cd6, 0x0, 0x1000000000000000}, scalar.Num{0xfffffffffffffffe, 0xffffffffffffffff, 0x0, 0x0}, scalar.Num{0x5812631a5cf5d3ed, 0x14def9dea2f79cd6, 0xfffffffffffffffe, 0xfffffffffffffff}, scalar.Num{0x24c634b9eba7da0, 0x9bdf3bd45ef39acb, 0x3, 0x0}},
	{scalar.Num{0xdf5ca32ebad5ccc2, 0xe91b4ad169fc5360, 0x8a0c510089ce5ef7, 0x303c521ae9af169}, scalar.Num{0x2f7307300dc749b0, 0x980bcb4c6c426e40, 0xff9264ffbf0e5eee, 0x31247ec65d3e198}, scalar.Num{0xecfaa5ec89d1672, 0x8127161dd63ec1a1, 0x899eb60048dcbde6, 0x6160d0e146ed302}, scalar.Num{0xd094eacebdfd6e60, 0x3e913f1cc617e967, 0xb363d0f27dcbb7cc, 0x95dc88f3c4cfacf}, scalar.Num{0x5c3a4bf62fab5ff9, 0x8740410f09e286b1, 0x2371d7bafbf1dfa7, 0xf094add05a3ef63}},
}
