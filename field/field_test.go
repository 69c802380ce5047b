package field_test

import (
	"testing"

	"bosun/api"
	"bosun/field"
)

type elem = field.Elem

var (
	zero  = elem{}
	one   = elem{1}
	prime = [4]uint64{0xffffffffffffffed, 0xffffffffffffffff, 0xffffffffffffffff, 0x7fffffffffffffff}
	last  = elem{0xffffffffffffffec, 0xffffffffffffffff, 0xffffffffffffffff, 0x7fffffffffffffff}
)

func numbers() []elem {
	l := []elem{zero, one, {2}, {19}, {38}, last, {^uint64(0), ^uint64(0), ^uint64(0), 1<<63 - 1 - 1}, {0, 0, 0, 1 << 62}}
	for _, c := range cases {
		l = append(l, c.a)
	}
	return l
}

// bytesOf is a number as thirty-two bytes, whatever it is.
func bytesOf(a [4]uint64) [32]byte {
	var b [32]byte
	for i := range b {
		b[i] = byte(a[i/8] >> (i % 8 * 8))
	}
	return b
}

// P5.1
func TestSmall(t *testing.T) {
	for _, n := range []uint64{0, 1, 19, 1 << 63, ^uint64(0)} {
		if field.Small(n) != (elem{n}) {
			t.Error(n, field.Small(n))
		}
	}
}

// P5.1
func TestBytes(t *testing.T) {
	for _, a := range numbers() {
		b := bytesOf(a)
		if a.Encode() != b {
			t.Errorf("%x: %x", a, a.Encode())
		}
		if c, e := field.Decode(b); c != a || e != api.OK {
			t.Errorf("%x: %x, %d", b, c, e)
		}
		if a.Odd() != (b[0]%2 == 1) {
			t.Errorf("%x: odd %v", a, a.Odd())
		}
	}
	b := [32]byte{1, 2, 3, 31: 4}
	if a, e := field.Decode(b); a != (elem{0x030201, 0, 0, 4 << 56}) || e != api.OK {
		t.Errorf("%x, %d", a, e)
	}
	for n := range uint64(19) { // the prime, and all above it with the highest bit 0
		over := prime
		over[0] += n
		if a, e := field.Decode(bytesOf(over)); a != zero || e != api.ErrForm {
			t.Errorf("the prime and %d: %x, %d", n, a, e)
		}
	}
	for _, over := range [][4]uint64{{3: 1 << 63}, {1, 0, 0, 1 << 63}, {^uint64(0), ^uint64(0), ^uint64(0), ^uint64(0)}} {
		if a, e := field.Decode(bytesOf(over)); a != zero || e != api.ErrForm {
			t.Errorf("%x: %x, %d", over, a, e)
		}
	}
}

// P5.2
func TestKnown(t *testing.T) {
	for _, c := range cases {
		root, has := c.a.Root()
		for _, x := range []struct {
			what      string
			got, want elem
		}{
			{"Add", field.Add(c.a, c.b), c.sum},
			{"Sub", field.Sub(c.a, c.b), c.less},
			{"Mul", field.Mul(c.a, c.b), c.product},
			{"Power", c.a.Power(c.b), c.power},
			{"Invert", c.a.Invert(), c.inverse},
			{"Root", root, c.root},
		} {
			if x.got != x.want {
				t.Errorf("%s of %x and %x: %x, want %x", x.what, c.a, c.b, x.got, x.want)
			}
		}
		if has != c.hasRoot {
			t.Errorf("Root of %x: %v", c.a, has)
		}
	}
}

// P5.2
func TestManyOrNone(t *testing.T) {
	if field.Add() != zero || field.Mul() != one {
		t.Error(field.Add(), field.Mul())
	}
	l := numbers()
	sum, product := zero, one
	for i, a := range l {
		sum, product = field.Add(sum, a), field.Mul(product, a)
		if field.Add(l[:i+1]...) != sum || field.Mul(l[:i+1]...) != product {
			t.Fatal(i+1, "numbers")
		}
	}
	if field.Add(last) != last || field.Mul(last) != last || field.Add(last, last, last) != field.Sub(zero, field.Small(3)) {
		t.Error("of the greatest number")
	}
}

// P5.2
func TestNegAndInvert(t *testing.T) {
	for _, a := range numbers() {
		if field.Add(a, a.Neg()) != zero || a.Neg().Neg() != a || field.Sub(zero, a) != a.Neg() {
			t.Errorf("Neg of %x: %x", a, a.Neg())
		}
		if p := field.Mul(a, a.Invert()); a != zero && p != one || a == zero && a.Invert() != zero {
			t.Errorf("Invert of %x: %x", a, a.Invert())
		}
	}
}

// P5.2
func TestPower(t *testing.T) {
	for _, a := range numbers() {
		p := one
		for n := range uint64(20) {
			if a.Power([4]uint64{n}) != p {
				t.Fatalf("%x to the power %d: %x, want %x", a, n, a.Power([4]uint64{n}), p)
			}
			p = field.Mul(p, a)
		}
		if a.Power(prime) != a {
			t.Errorf("%x to the power of the prime: %x", a, a.Power(prime))
		}
		squared := a
		for range 255 {
			squared = field.Mul(squared, squared)
		}
		if a.Power([4]uint64{3: 1 << 63}) != squared {
			t.Errorf("%x to the power 2^255", a)
		}
		all := field.Mul(squared, squared)
		if a != zero && field.Mul(a.Power([4]uint64{^uint64(0), ^uint64(0), ^uint64(0), ^uint64(0)}), a) != all {
			t.Errorf("%x to the power 2^256 - 1", a)
		}
	}
}

// P5.2
func TestRoot(t *testing.T) {
	if r, ok := field.Small(4).Root(); r != field.Small(2) || !ok {
		t.Error("Root of 4:", r, ok)
	}
	if r, ok := zero.Root(); r != zero || !ok {
		t.Error("Root of 0:", r, ok)
	}
	if r, ok := field.Small(2).Root(); r != zero || ok {
		t.Error("Root of 2:", r, ok)
	}
	for _, a := range numbers() {
		square := field.Mul(a, a)
		r, ok := square.Root()
		if !ok || r.Odd() || r != a && r != a.Neg() {
			t.Errorf("Root of the square of %x: %x, %v", a, r, ok)
		}
		if a == zero {
			continue
		}
		if r, ok := field.Mul(square, field.Small(2)).Root(); ok || r != zero {
			t.Errorf("Root of twice the square of %x: %x, %v", a, r, ok)
		}
	}
}

// P5.3
func TestField(t *testing.T) {
	l := numbers()
	for i, a := range l {
		for j, b := range l[:i+1] {
			c := l[(i*3+j)%len(l)]
			if field.Add(a, b) != field.Add(b, a) || field.Mul(a, b) != field.Mul(b, a) {
				t.Fatalf("not commutative: %x, %x", a, b)
			}
			if field.Add(field.Add(a, b), c) != field.Add(a, field.Add(b, c)) || field.Mul(field.Mul(a, b), c) != field.Mul(a, field.Mul(b, c)) {
				t.Fatalf("not associative: %x, %x, %x", a, b, c)
			}
			if field.Mul(a, field.Add(b, c)) != field.Add(field.Mul(a, b), field.Mul(a, c)) {
				t.Fatalf("not distributive: %x, %x, %x", a, b, c)
			}
			if field.Add(field.Sub(a, b), b) != a {
				t.Fatalf("Sub of %x, %x", a, b)
			}
		}
	}
}

var cases = []struct {
	a, b, sum, less, product, power, inverse, root field.Elem
	hasRoot                                        bool
}{
	{elem{0x3fc1ea36f17fd374, 0xd464138a6233255, 0x2827688de6a16a3b, 0x2f96ecbf1cfb10f6}, elem{0xfffffffffffffff7, 0xffffffffffffffff, 0xffffffffffffffff, 0x3fffffffffffffff}, elem{0x3fc1ea36f17fd36b, 0xd464138a6233255, 0x2827688de6a16a3b, 0x6f96ecbf1cfb10f6}, elem{0x3fc1ea36f17fd36a, 0xd464138a6233255, 0x2827688de6a16a3b, 0x6f96ecbf1cfb10f6}, elem{0x9fe0f51b78bfe9ba, 0x86a3209c5311992a, 0x1413b446f350b51d, 0x17cb765f8e7d887b}, elem{0x3fc1ea36f17fd374, 0xd464138a6233255, 0x2827688de6a16a3b, 0x2f96ecbf1cfb10f6}, elem{0x2de2f626435a6686, 0xa23bc3d155566d7f, 0xb0d981fe0290b682, 0x484f40d807c7a5cb}, elem{0xe2d78896d292b37c, 0x95a9e6ee83c3fc31, 0x77be60a9ca53cd4, 0x62610af5ffe4fa81}, true},
	{elem{0xffffffffffffffec, 0xffffffffffffffff, 0xffffffffffffffff, 0x7fffffffffffffff}, elem{0xffffffffffffffeb, 0xffffffffffffffff, 0xffffffffffffffff, 0x7fffffffffffffff}, elem{0xffffffffffffffea, 0xffffffffffffffff, 0xffffffffffffffff, 0x7fffffffffffffff}, elem{0x1, 0x0, 0x0, 0x0}, elem{0x2, 0x0, 0x0, 0x0}, elem{0xffffffffffffffec, 0xffffffffffffffff, 0xffffffffffffffff, 0x7fffffffffffffff}, elem{0xffffffffffffffec, 0xffffffffffffffff, 0xffffffffffffffff, 0x7fffffffffffffff}, elem{0xc4ee1b274a0ea0b0, 0x2f431806ad2fe478, 0x2b4d00993dfbd7a7, 0x2b8324804fc1df0b}, true},
	{elem{0x71e0c07e9e115e4b, 0x21da8978206f5c66, 0xf8eb18b900745130, 0xae19d9df1461aa}, elem{0x504b74ba4a0fe75d, 0x32ea6928f6236bf2, 0xe049548e8a0a8c96, 0x5017ed50ad864c44}, elem{0xc22c3538e82145a8, 0x54c4f2a11692c858, 0xd9346d478a7eddc6, 0x50c6072a8c9aadef}, elem{0x21954bc4540176db, 0xeef0204f2a4bf074, 0x18a1c42a7669c499, 0x30962c89318e1566}, elem{0x7434687ac78b66d5, 0xece65a4ec57fcc6c, 0x5bf2e7119d5f136b, 0x4fcdca06a1b9296}, elem{0x8f0552974988d62a, 0x6708176253622741, 0xf1053d62c77d8df9, 0x54bdcdfbb652c33f}, elem{0xd7638b4d1fa28dcc, 0xe586b820cce9663, 0x4c91ca158f16864b, 0x37138ab6e88ed101}, elem{0x0, 0x0, 0x0, 0x0}, false},
	{elem{0xfffffffffffffff7, 0xffffffffffffffff, 0xffffffffffffffff, 0x3fffffffffffffff}, elem{0xffffffffffffffff, 0xffffffffffffffff, 0x0, 0x0}, elem{0xfffffffffffffff6, 0xffffffffffffffff, 0x0, 0x4000000000000000}, elem{0xfffffffffffffff8, 0xffffffffffffffff, 0xfffffffffffffffe, 0x3fffffffffffffff}, elem{0xfffffffffffffff6, 0x7fffffffffffffff, 0x0, 0x4000000000000000}, elem{0x2c65a56186c0bac2, 0x3c07b9bbf3024852, 0xc0e70f66a12e15c7, 0xfb85cbd3931c901}, elem{0x2, 0x0, 0x0, 0x0}, elem{0x0, 0x0, 0x0, 0x0}, false},
	{elem{0xffffffffffffffec, 0xffffffffffffffff, 0xffffffffffffffff, 0x7fffffffffffffff}, elem{0xfffffffffffffff7, 0xffffffffffffffff, 0xffffffffffffffff, 0x3fffffffffffffff}, elem{0xfffffffffffffff6, 0xffffffffffffffff, 0xffffffffffffffff, 0x3fffffffffffffff}, elem{0xfffffffffffffff5, 0xffffffffffffffff, 0xffffffffffffffff, 0x3fffffffffffffff}, elem{0xfffffffffffffff6, 0xffffffffffffffff, 0xffffffffffffffff, 0x3fffffffffffffff}, elem{0xffffffffffffffec, 0xffffffffffffffff, 0xffffffffffffffff, 0x7fffffffffffffff}, elem{0xffffffffffffffec, 0xffffffffffffffff, 0xffffffffffffffff, 0x7fffffffffffffff}, elem{0xc4ee1b274a0ea0b0, 0x2f431806ad2fe478, 0x2b4d00993dfbd7a7, 0x2b8324804fc1df0b}, true},
	{elem{0xc4ee1b274a0ea0b0, 0x2f431806ad2fe478, 0x2b4d00993dfbd7a7, 0x2b8324804fc1df0b}, elem{0xffffffffffffffeb, 0xffffffffffffffff, 0xffffffffffffffff, 0x7fffffffffffffff}, elem{0xc4ee1b274a0ea0ae, 0x2f431806ad2fe478, 0x2b4d00993dfbd7a7, 0x2b8324804fc1df0b}, elem{0xc4ee1b274a0ea0b2, 0x2f431806ad2fe478, 0x2b4d00993dfbd7a7, 0x2b8324804fc1df0b}, elem{0x7623c9b16be2be8d, 0xa179cff2a5a0370e, 0xa965fecd840850b1, 0x28f9b6ff607c41e9}, elem{0x3b11e4d8b5f15f3d, 0xd0bce7f952d01b87, 0xd4b2ff66c2042858, 0x547cdb7fb03e20f4}, elem{0x3b11e4d8b5f15f3d, 0xd0bce7f952d01b87, 0xd4b2ff66c2042858, 0x547cdb7fb03e20f4}, elem{0x0, 0x0, 0x0, 0x0}, false},
	{elem{0x4, 0x0, 0x0, 0x0}, elem{0x504b74ba4a0fe75d, 0x32ea6928f6236bf2, 0xe049548e8a0a8c96, 0x5017ed50ad864c44}, elem{0x504b74ba4a0fe761, 0x32ea6928f6236bf2, 0xe049548e8a0a8c96, 0x5017ed50ad864c44}, elem{0xafb48b45b5f01894, 0xcd1596d709dc940d, 0x1fb6ab7175f57369, 0x2fe812af5279b3bb}, elem{0x412dd2e9283f9d9a, 0xcba9a4a3d88dafc9, 0x8125523a282a3258, 0x405fb542b6193113}, elem{0xfa0d81559f45a85, 0xf9021b7c9f63ba8c, 0xffabf3b24eca4d2a, 0x4aa1bbd259d4cd1f}, elem{0xfffffffffffffff2, 0xffffffffffffffff, 0xffffffffffffffff, 0x5fffffffffffffff}, elem{0x2, 0x0, 0x0, 0x0}, true},
	{elem{0xfffffffffffffff6, 0xffffffffffffffff, 0xffffffffffffffff, 0x3fffffffffffffff}, elem{0xffffffffffffffff, 0xffffffffffffffff, 0x0, 0x0}, elem{0xfffffffffffffff5, 0xffffffffffffffff, 0x0, 0x4000000000000000}, elem{0xfffffffffffffff7, 0xffffffffffffffff, 0xfffffffffffffffe, 0x3fffffffffffffff}, elem{0xfffffffffffffff7, 0x7fffffffffffffff, 0xffffffffffffffff, 0x3fffffffffffffff}, elem{0xd39a5a9e793f452b, 0xc3f846440cfdb7ad, 0x3f18f0995ed1ea38, 0x7047a342c6ce36fe}, elem{0xffffffffffffffeb, 0xffffffffffffffff, 0xffffffffffffffff, 0x7fffffffffffffff}, elem{0x0, 0x0, 0x0, 0x0}, false},
	{elem{0xa6eb8c9ebd69fe29, 0x87b0b125ec1d7da0, 0xd7210dff076ce2ef, 0x63529c3b77330bdb}, elem{0xfffffffffffffff7, 0xffffffffffffffff, 0xffffffffffffffff, 0x3fffffffffffffff}, elem{0xa6eb8c9ebd69fe33, 0x87b0b125ec1d7da0, 0xd7210dff076ce2ef, 0x23529c3b77330bdb}, elem{0xa6eb8c9ebd69fe32, 0x87b0b125ec1d7da0, 0xd7210dff076ce2ef, 0x23529c3b77330bdb}, elem{0x5375c64f5eb4ff0b, 0xc3d85892f60ebed0, 0xeb9086ff83b67177, 0x71a94e1dbb9985ed}, elem{0xa6eb8c9ebd69fe29, 0x87b0b125ec1d7da0, 0xd7210dff076ce2ef, 0x63529c3b77330bdb}, elem{0x915af2d1100c6ec6, 0x89b94d147176f13b, 0x892373ca9ebf516, 0x273cbc9ec580f248}, elem{0xfa4a9a39b6d27d5a, 0x2f6ccbd3a228e4d6, 0xa0e2a2c7852bef76, 0x52b8f583efac2188}, true},
	{elem{0x2e81d66d346c6e2b, 0xf7f35634f0e3cd97, 0x3266aa3bb0cde917, 0x7b88474bf770c226}, elem{0xffffffffffffffeb, 0xffffffffffffffff, 0xffffffffffffffff, 0x7fffffffffffffff}, elem{0x2e81d66d346c6e29, 0xf7f35634f0e3cd97, 0x3266aa3bb0cde917, 0x7b88474bf770c226}, elem{0x2e81d66d346c6e2d, 0xf7f35634f0e3cd97, 0x3266aa3bb0cde917, 0x7b88474bf770c226}, elem{0xa2fc532597272384, 0x101953961e3864d1, 0x9b32ab889e642dd0, 0x8ef7168111e7bb3}, elem{0x9e9d28d9c98ec450, 0xbd00f9095a0719d, 0xedadc835698bdc91, 0x1d29a7806aad9e8c}, elem{0x9e9d28d9c98ec450, 0xbd00f9095a0719d, 0xedadc835698bdc91, 0x1d29a7806aad9e8c}, elem{0x0, 0x0, 0x0, 0x0}, false},
	{elem{0xffffffffffffffeb, 0xffffffffffffffff, 0xffffffffffffffff, 0x7fffffffffffffff}, elem{0x504b74ba4a0fe75d, 0x32ea6928f6236bf2, 0xe049548e8a0a8c96, 0x5017ed50ad864c44}, elem{0x504b74ba4a0fe75b, 0x32ea6928f6236bf2, 0xe049548e8a0a8c96, 0x5017ed50ad864c44}, elem{0xafb48b45b5f0188e, 0xcd1596d709dc940d, 0x1fb6ab7175f57369, 0x2fe812af5279b3bb}, elem{0x5f69168b6be03120, 0x9a2b2dae13b9281b, 0x3f6d56e2ebeae6d3, 0x5fd0255ea4f36776}, elem{0xa01307ad87ad5f1b, 0x3de6635731a931ae, 0x74de5e8c330ddb98, 0x1a08d08209259c1b}, elem{0xfffffffffffffff6, 0xffffffffffffffff, 0xffffffffffffffff, 0x3fffffffffffffff}, elem{0x0, 0x0, 0x0, 0x0}, false},
	{elem{0x63b229f1c4069545, 0xc30d8b7628dbd25e, 0x126a1e48cc11d357, 0x4f18348e238642ea}, elem{0xffffffffffffffff, 0xffffffffffffffff, 0x0, 0x0}, elem{0x63b229f1c4069544, 0xc30d8b7628dbd25e, 0x126a1e48cc11d358, 0x4f18348e238642ea}, elem{0x63b229f1c4069546, 0xc30d8b7628dbd25e, 0x126a1e48cc11d356, 0x4f18348e238642ea}, elem{0x580e54dc869ec9a5, 0xfa8a41a31d121c60, 0x51480ba8f7f4c1f8, 0x73f556e805558f74}, elem{0x4ea9dd0218556362, 0xcfd4bff7ec5f2d0a, 0xbf8c61b2e9a63a90, 0xb997007c3b8bf5c}, elem{0x7813cbebfe14a816, 0x54234c614b3afa87, 0xd5a3c83d2467faa6, 0x53ec75da777462d6}, elem{0x0, 0x0, 0x0, 0x0}, false},
	{elem{0xbb2edb20035b7399, 0x687c966c377b9aa2, 0x2e9c82b1478c281d, 0x6f08e64eea959c21}, elem{0xfffffffffffffff7, 0xffffffffffffffff, 0xffffffffffffffff, 0x3fffffffffffffff}, elem{0xbb2edb20035b73a3, 0x687c966c377b9aa2, 0x2e9c82b1478c281d, 0x2f08e64eea959c21}, elem{0xbb2edb20035b73a2, 0x687c966c377b9aa2, 0x2e9c82b1478c281d, 0x2f08e64eea959c21}, elem{0x5d976d9001adb9c3, 0xb43e4b361bbdcd51, 0x974e4158a3c6140e, 0x77847327754ace10}, elem{0xbb2edb20035b7399, 0x687c966c377b9aa2, 0x2e9c82b1478c281d, 0x6f08e64eea959c21}, elem{0x7365bfd6a10a91dd, 0xbe1bf773ee38973e, 0xc534420eea4551f8, 0x276e65062be66e64}, elem{0xf742e679718d0f74, 0xee9c259fd05757b0, 0xf39cae8108e113fa, 0x498f973e3a30be7d}, true},
	{elem{0xde5271007814e8a2, 0x617959ce3f1f65a8, 0x1a1afe878b33e968, 0x1fea11ac92edcf45}, elem{0xffffffffffffffeb, 0xffffffffffffffff, 0xffffffffffffffff, 0x7fffffffffffffff}, elem{0xde5271007814e8a0, 0x617959ce3f1f65a8, 0x1a1afe878b33e968, 0x1fea11ac92edcf45}, elem{0xde5271007814e8a4, 0x617959ce3f1f65a8, 0x1a1afe878b33e968, 0x1fea11ac92edcf45}, elem{0x435b1dff0fd62ea9, 0x3d0d4c6381c134ae, 0xcbca02f0e9982d2f, 0x402bdca6da246175}, elem{0x72ae130db5eac766, 0x86db460b0cf2ab61, 0xab8c804deb603fd2, 0x5272af9e7cce70af}, elem{0x72ae130db5eac766, 0x86db460b0cf2ab61, 0xab8c804deb603fd2, 0x5272af9e7cce70af}, elem{0xd4dd50ba8c1fd55c, 0x98d07aa0b9e4b56f, 0xba79251ed3cff783, 0x4da983afaf589462}, true},
	{elem{0x1, 0x0, 0x0, 0x0}, elem{0x504b74ba4a0fe75d, 0x32ea6928f6236bf2, 0xe049548e8a0a8c96, 0x5017ed50ad864c44}, elem{0x504b74ba4a0fe75e, 0x32ea6928f6236bf2, 0xe049548e8a0a8c96, 0x5017ed50ad864c44}, elem{0xafb48b45b5f01891, 0xcd1596d709dc940d, 0x1fb6ab7175f57369, 0x2fe812af5279b3bb}, elem{0x504b74ba4a0fe75d, 0x32ea6928f6236bf2, 0xe049548e8a0a8c96, 0x5017ed50ad864c44}, elem{0x1, 0x0, 0x0, 0x0}, elem{0x1, 0x0, 0x0, 0x0}, elem{0xffffffffffffffec, 0xffffffffffffffff, 0xffffffffffffffff, 0x7fffffffffffffff}, true},
	{elem{0x4164d8399f767c45, 0x5bc8fbbcbde5c099, 0xb0c11fdecb91ce37, 0x6bb6a198f1446bea}, elem{0xffffffffffffffff, 0xffffffffffffffff, 0x0, 0x0}, elem{0x4164d8399f767c44, 0x5bc8fbbcbde5c099, 0xb0c11fdecb91ce38, 0x6bb6a198f1446bea}, elem{0x4164d8399f767c46, 0x5bc8fbbcbde5c099, 0xb0c11fdecb91ce36, 0x6bb6a198f1446bea}, elem{0xfb45e2d8982e1fd2, 0xa15300f71242443c, 0x90a3b85ad3e4ae1d, 0x70125a23cca154ae}, elem{0xfef13d1ca7351a0b, 0xae6975fb06997b15, 0x22e4a15e61d49ee3, 0x1de375dda10576f4}, elem{0x9ebf2cf6b4f014a2, 0xac716f10748a21d2, 0x242e127ef199a19d, 0x3262d0973ec7afb}, elem{0x2c1131792c4629ac, 0x350712532ba6bc1e, 0xf06c8021cf4d2866, 0x5f934f3af0272011}, true},
	{elem{0xc60a3cab359eeefb, 0xf5cae3bf3729c619, 0x2a759159fb7ff337, 0x154f5d06df561d80}, elem{0xfffffffffffffff7, 0xffffffffffffffff, 0xffffffffffffffff, 0x3fffffffffffffff}, elem{0xc60a3cab359eeef2, 0xf5cae3bf3729c619, 0x2a759159fb7ff337, 0x554f5d06df561d80}, elem{0xc60a3cab359eeef1, 0xf5cae3bf3729c619, 0x2a759159fb7ff337, 0x554f5d06df561d80}, elem{0xe3051e559acf7774, 0xfae571df9b94e30c, 0x153ac8acfdbff99b, 0x4aa7ae836fab0ec0}, elem{0x39f5c354ca6110f2, 0xa351c40c8d639e6, 0xd58a6ea604800cc8, 0x6ab0a2f920a9e27f}, elem{0xa60f244884a2a631, 0x37c3ee3ac6edff0b, 0xbfb8a550dc14c5c7, 0x2d2241dbf55876cc}, elem{0x0, 0x0, 0x0, 0x0}, false},
	{elem{0x504b74ba4a0fe75d, 0x32ea6928f6236bf2, 0xe049548e8a0a8c96, 0x5017ed50ad864c44}, elem{0xffffffffffffffeb, 0xffffffffffffffff, 0xffffffffffffffff, 0x7fffffffffffffff}, elem{0x504b74ba4a0fe75b, 0x32ea6928f6236bf2, 0xe049548e8a0a8c96, 0x5017ed50ad864c44}, elem{0x504b74ba4a0fe75f, 0x32ea6928f6236bf2, 0xe049548e8a0a8c96, 0x5017ed50ad864c44}, elem{0x5f69168b6be03120, 0x9a2b2dae13b9281b, 0x3f6d56e2ebeae6d3, 0x5fd0255ea4f36776}, elem{0x8dd707fe9c2ba858, 0xd5d6604ebd26b9ed, 0xd6f4358cb558620f, 0x6a7282bc535f17b2}, elem{0x8dd707fe9c2ba858, 0xd5d6604ebd26b9ed, 0xd6f4358cb558620f, 0x6a7282bc535f17b2}, elem{0x0, 0x0, 0x0, 0x0}, false},
	{elem{0x0, 0x1, 0x0, 0x0}, elem{0x504b74ba4a0fe75d, 0x32ea6928f6236bf2, 0xe049548e8a0a8c96, 0x5017ed50ad864c44}, elem{0x504b74ba4a0fe75d, 0x32ea6928f6236bf3, 0xe049548e8a0a8c96, 0x5017ed50ad864c44}, elem{0xafb48b45b5f01890, 0xcd1596d709dc940e, 0x1fb6ab7175f57369, 0x2fe812af5279b3bb}, elem{0xe38d39f9c1ef522b, 0x504b74ba4a0fe768, 0x32ea6928f6236bf2, 0x6049548e8a0a8c96}, elem{0x4284501ca0732e9, 0x26f725678b93682, 0x9d21d80f00597a3f, 0x66ffd2a6edb71f55}, elem{0xfffffffffffffff6, 0xffffffffffffffff, 0x7fffffffffffffff, 0x435e50d79435e50d}, elem{0x100000000, 0x0, 0x0, 0x0}, true},
	{elem{0x2, 0x0, 0x0, 0x0}, elem{0xffffffffffffffff, 0xffffffffffffffff, 0x0, 0x0}, elem{0x1, 0x0, 0x1, 0x0}, elem{0xfffffffffffffff0, 0xffffffffffffffff, 0xfffffffffffffffe, 0x7fffffffffffffff}, elem{0xfffffffffffffffe, 0xffffffffffffffff, 0x1, 0x0}, elem{0x97eb5466c460af7b, 0xa7c19b2145a23a11, 0x80d278d115d042ea, 0x3b9cc3524e6bdb85}, elem{0xfffffffffffffff7, 0xffffffffffffffff, 0xffffffffffffffff, 0x3fffffffffffffff}, elem{0x0, 0x0, 0x0, 0x0}, false},
	{elem{0xffffffffffffffda, 0xffffffffffffffff, 0xffffffffffffffff, 0x7fffffffffffffff}, elem{0xfffffffffffffff7, 0xffffffffffffffff, 0xffffffffffffffff, 0x3fffffffffffffff}, elem{0xffffffffffffffe4, 0xffffffffffffffff, 0xffffffffffffffff, 0x3fffffffffffffff}, elem{0xffffffffffffffe3, 0xffffffffffffffff, 0xffffffffffffffff, 0x3fffffffffffffff}, elem{0xffffffffffffffed, 0xffffffffffffffff, 0xffffffffffffffff, 0x3fffffffffffffff}, elem{0x13, 0x0, 0x0, 0x0}, elem{0x79435e50d79435d9, 0x435e50d79435e50d, 0x5e50d79435e50d79, 0x50d79435e50d7943}, elem{0x0, 0x0, 0x0, 0x0}, false},
	{elem{0x13, 0x0, 0x0, 0x0}, elem{0xffffffffffffffeb, 0xffffffffffffffff, 0xffffffffffffffff, 0x7fffffffffffffff}, elem{0x11, 0x0, 0x0, 0x0}, elem{0x15, 0x0, 0x0, 0x0}, elem{0xffffffffffffffc7, 0xffffffffffffffff, 0xffffffffffffffff, 0x7fffffffffffffff}, elem{0x86bca1af286bca14, 0xbca1af286bca1af2, 0xa1af286bca1af286, 0x2f286bca1af286bc}, elem{0x86bca1af286bca14, 0xbca1af286bca1af2, 0xa1af286bca1af286, 0x2f286bca1af286bc}, elem{0x0, 0x0, 0x0, 0x0}, false},
	{elem{0x26, 0x0, 0x0, 0x0}, elem{0x504b74ba4a0fe75d, 0x32ea6928f6236bf2, 0xe049548e8a0a8c96, 0x5017ed50ad864c44}, elem{0x504b74ba4a0fe783, 0x32ea6928f6236bf2, 0xe049548e8a0a8c96, 0x5017ed50ad864c44}, elem{0xafb48b45b5f018b6, 0xcd1596d709dc940d, 0x1fb6ab7175f57369, 0x2fe812af5279b3bb}, elem{0xeb3353a6fe5c5983, 0x8ecb9c14894205f7, 0x4ae28d287d90de4b, 0x638d39f9c1ef5239}, elem{0x54e720c3646c8a3f, 0xb2f060427a6b2a20, 0xc81e011be553b823, 0x64d0dba88b9c3d4}, elem{0x435e50d79435e50a, 0x5e50d79435e50d79, 0x50d79435e50d7943, 0x179435e50d79435e}, elem{0x0, 0x0, 0x1, 0x0}, true},
	{elem{0x0, 0x0, 0x0, 0x4000000000000000}, elem{0xffffffffffffffff, 0xffffffffffffffff, 0x0, 0x0}, elem{0xffffffffffffffff, 0xffffffffffffffff, 0x0, 0x4000000000000000}, elem{0x1, 0x0, 0xffffffffffffffff, 0x3fffffffffffffff}, elem{0xffffffffffffffed, 0x7fffffffffffffff, 0x9, 0x4000000000000000}, elem{0xbcdf87399102ea35, 0x8c9e1482453e1ca9, 0x714bcd205957b8c4, 0x52c16342e7de4e6}, elem{0xd79435e50d79428, 0x79435e50d79435e5, 0x435e50d79435e50d, 0x5e50d79435e50d79}, elem{0x0, 0x8000000000000000, 0x0, 0x0}, true},
	{elem{0xffffffffffffffff, 0xffffffffffffffff, 0x0, 0x0}, elem{0xfffffffffffffff7, 0xffffffffffffffff, 0xffffffffffffffff, 0x3fffffffffffffff}, elem{0xfffffffffffffff6, 0xffffffffffffffff, 0x0, 0x4000000000000000}, elem{0xfffffffffffffff5, 0xffffffffffffffff, 0x0, 0x4000000000000000}, elem{0xfffffffffffffff6, 0x7fffffffffffffff, 0x0, 0x4000000000000000}, elem{0xffffffffffffffff, 0xffffffffffffffff, 0x0, 0x0}, elem{0xdd67c8a60dd67c7b, 0x67c8a60dd67c8a60, 0xdd67c8a60dd67c8a, 0x67c8a60dd67c8a60}, elem{0x9d426e3937638526, 0x23db221fe9aa0807, 0xbe600c42a72990ec, 0x6592a13430fffefa}, true},
	{elem{0x0, 0x0, 0x0, 0x0}, elem{0xffffffffffffffeb, 0xffffffffffffffff, 0xffffffffffffffff, 0x7fffffffffffffff}, elem{0xffffffffffffffeb, 0xffffffffffffffff, 0xffffffffffffffff, 0x7fffffffffffffff}, elem{0x2, 0x0, 0x0, 0x0}, elem{0x0, 0x0, 0x0, 0x0}, elem{0x0, 0x0, 0x0, 0x0}, elem{0x0, 0x0, 0x0, 0x0}, elem{0x0, 0x0, 0x0, 0x0}, true},
	{elem{0xffffffffffffffff, 0x0, 0x0, 0x0}, elem{0x504b74ba4a0fe75d, 0x32ea6928f6236bf2, 0xe049548e8a0a8c96, 0x5017ed50ad864c44}, elem{0x504b74ba4a0fe75c, 0x32ea6928f6236bf3, 0xe049548e8a0a8c96, 0x5017ed50ad864c44}, elem{0xafb48b45b5f0188f, 0xcd1596d709dc940e, 0x1fb6ab7175f57369, 0x2fe812af5279b3bb}, elem{0x9341c53f77df6ace, 0x1d610b9153ec7b76, 0x52a1149a6c18df5c, 0x1031673ddc844051}, elem{0x3cb50bb96899ba03, 0xbb7c10ea6b94bd1f, 0x84c4ef39ab0245c8, 0x51a69be96e4fc312}, elem{0x45306eb3e45306e1, 0x45306eb3e45306eb, 0x45306eb3e45306eb, 0x45306eb3e45306eb}, elem{0x0, 0x0, 0x0, 0x0}, false},
	{elem{0x0, 0x0, 0x0, 0x1}, elem{0xffffffffffffffff, 0xffffffffffffffff, 0x0, 0x0}, elem{0xffffffffffffffff, 0xffffffffffffffff, 0x0, 0x1}, elem{0x1, 0x0, 0xffffffffffffffff, 0x0}, elem{0xffffffffffffffed, 0x25, 0x0, 0x7fffffffffffffff}, elem{0xf30d162b0f4b6978, 0xc590dec4129953df, 0x7733c4b4d3a356ac, 0x5798ba87ec058ce9}, elem{0x7ffffffffffffff4, 0x435e50d79435e50d, 0x5e50d79435e50d79, 0x50d79435e50d7943}, elem{0x0, 0x100000000, 0x0, 0x0}, true},
}
