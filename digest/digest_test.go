package digest_test

import (
	"bytes"
	"crypto/hmac"
	"crypto/sha1"
	"encoding/base64"
	"encoding/hex"
	"slices"
	"strings"
	"testing"

	"blotter/api"
	"blotter/digest"
)

// hexOf is base 16, by another program.
func hexOf(b []byte) string { return hex.EncodeToString(b) }

func TestP101Examples(t *testing.T) {
	for text, want := range map[string]string{
		"":    "da39a3ee5e6b4b0d3255bfef95601890afd80709",
		"a":   "86f7e437faa5a7fce15d1ddcb9eaeaea377667b8",
		"abc": "a9993e364706816aba3e25717850c26c9cd0d89d",
		"abcdbcdecdefdefgefghfghighijhijkijkljklmklmnlmnomnopnopq":                                                         "84983e441c3bd26ebaae4aa1f95129e5e54670f1",
		"abcdefghbcdefghicdefghijdefghijkefghijklfghijklmghijklmnhijklmnoijklmnopjklmnopqklmnopqrlmnopqrsmnopqrstnopqrstu": "a49b2446a02c645bf419f995b67091253a04a259",
		strings.Repeat("a", 1000000):   "34aa973cd4c4daa4f61eeb2bdbad27316534016f",
		strings.Repeat("01234567", 80): "dea356a2cddd90c7a7ecedc5ebb563934f460452",
		strings.Repeat("\x00", 64):     "c8d7d0ef0eedfa82d2ea1aa592845b9a6d4b02b7",
	} {
		if d := digest.Sha([]byte(text)); hexOf(d) != want {
			t.Error(show(text), hexOf(d))
		}
	}
	if d := digest.Sha(nil); hexOf(d) != "da39a3ee5e6b4b0d3255bfef95601890afd80709" {
		t.Error("nil", hexOf(d))
	}
}

// TestP101OfEach holds the digest against the words, and against another program that is known to tell it: of all lengths about a block's end, and many beyond.
func TestP101OfEach(t *testing.T) {
	try := func(b []byte) {
		d := digest.Sha(b)
		known := sha1.Sum(b)
		if !bytes.Equal(d, known[:]) {
			t.Fatal(len(b), show(b), hexOf(d))
		}
		if len(b) < 400 && !bytes.Equal(d, shaOf(b)) {
			t.Fatal("the words", len(b), show(b), hexOf(d))
		}
	}
	for i := range 256 {
		try([]byte{byte(i)})
	}
	for n := range 1100 {
		try(noise(n, n))
		try(make([]byte, n))
		try(bytes.Repeat([]byte{255}, n))
		// What is put behind them stands there already.
		try(append(noise(n, n+1), 128))
		try(append(bytes.Repeat([]byte{128}, n), 0))
	}
	// Lengths that fill more than one, two, three of the eight bytes.
	for _, n := range []int{31, 32, 8191, 8192, 8193, api.MaxValue, api.MaxRecord, 1<<21 - 1, 1 << 21, 1<<21 + 55, 1<<21 + 56} {
		try(noise(n, 1))
	}
}

// TestP101EachBit: no byte, and no bit of one, is passed over.
func TestP101EachBit(t *testing.T) {
	for _, n := range []int{1, 55, 56, 64, 65, 130} {
		b := noise(n, n)
		seen := map[[20]byte]bool{[20]byte(digest.Sha(b)): true}
		for i := range b {
			for bit := range 8 {
				b[i] ^= 1 << bit
				d := [20]byte(digest.Sha(b))
				if seen[d] || d != sha1.Sum(b) {
					t.Fatal(n, i, bit)
				}
				seen[d] = true
				b[i] ^= 1 << bit
			}
		}
	}
}

// tags are keys, bytes and their tags that are known.
func tags() []struct {
	key, b []byte
	want   string
} {
	long := bytes.Repeat([]byte{0xaa}, 80)
	return []struct {
		key, b []byte
		want   string
	}{
		{[]byte("key"), []byte("The quick brown fox jumps over the lazy dog"), "de7c9b85b8b78aa6bc8a7a36f70a90701c9db4d9"},
		{nil, nil, "fbdb1d1b18aa6c08324b7d64b71fb76370690e1d"},
		{bytes.Repeat([]byte{0x0b}, 20), []byte("Hi There"), "b617318655057264e28bc0b6fb378c8ef146be00"},
		{[]byte("Jefe"), []byte("what do ya want for nothing?"), "effcdf6ae5eb2fa2d27416d5f184df9c259a7c79"},
		{bytes.Repeat([]byte{0xaa}, 20), bytes.Repeat([]byte{0xdd}, 50), "125d7342b9ac11cd91a39af48aa17b4f63f175d3"},
		{bytes.Repeat([]byte{0x0c}, 20), []byte("Test With Truncation"), "4c1a03424b55e07fe7f27be1d58bb9324a9a5a04"},
		{long, []byte("Test Using Larger Than Block-Size Key - Hash Key First"), "aa4ae5e15272d00e95705637ce8a3b55ed402112"},
		{long, []byte("Test Using Larger Than Block-Size Key and Larger Than One Block-Size Data"), "e8e99d0f45237d786d6bbaa7965c7808bbff1a91"},
	}
}

func TestP102Examples(t *testing.T) {
	for i, x := range tags() {
		tag := digest.Tag(x.key, x.b)
		if hexOf(tag) != x.want {
			t.Error(i, hexOf(tag))
		}
		want, _ := hex.DecodeString(x.want)
		if !digest.Right(x.key, x.b, want) {
			t.Error(i, "not right")
		}
	}
}

// TestP102OfEach: keys of all lengths about a block's, which alone are taken as they are, and bytes of many.
func TestP102OfEach(t *testing.T) {
	try := func(key, b []byte) {
		h := hmac.New(sha1.New, key)
		h.Write(b)
		tag := digest.Tag(key, b)
		if !bytes.Equal(tag, h.Sum(nil)) {
			t.Fatal(show(key), show(b), hexOf(tag))
		}
		if len(key)+len(b) < 200 && len(b)%9 == 0 && !bytes.Equal(tag, tagOf(key, b)) {
			t.Fatal("the words", show(key), show(b), hexOf(tag))
		}
		if !digest.Right(key, b, tag) {
			t.Fatal(show(key), show(b), "not right")
		}
	}
	for n := range 200 {
		for m := range 140 {
			try(noise(n, n), noise(m, m))
		}
		try(make([]byte, n), noise(n, 7))
		try(bytes.Repeat([]byte{255}, n), bytes.Repeat([]byte{54}, n))
		try(bytes.Repeat([]byte{92}, n), bytes.Repeat([]byte{92}, n))
	}
	try(noise(1<<20, 1), noise(1<<20, 2))
}

// TestP102KeysAlike: a key is filled up with 0, and a long one is its digest; so each has others with the same tags, and no more.
func TestP102KeysAlike(t *testing.T) {
	for n := range 64 {
		key := noise(n, n)
		tag := digest.Tag(key, []byte("b"))
		for len(key) < 64 {
			key = append(key, 0)
			if !digest.Right(key, []byte("b"), tag) {
				t.Fatal(n, len(key), "filled up")
			}
		}
		if digest.Right(append(key, 0), []byte("b"), tag) {
			t.Fatal(n, "filled up beyond a block")
		}
	}
	for n := range 130 {
		key := noise(n, n)
		if digest.Right(digest.Sha(key), []byte("b"), digest.Tag(key, []byte("b"))) != (n > 64) {
			t.Fatal(n, "its digest")
		}
	}
}

// TestP102Wrong: what is not that tag, all of it and no more, is not right.
func TestP102Wrong(t *testing.T) {
	for i, x := range tags() {
		tag := digest.Tag(x.key, x.b)
		refuse := func(why string, key, b, tag []byte) {
			if digest.Right(key, b, tag) {
				t.Error(i, why)
			}
		}
		for at := range tag {
			for bit := range 8 {
				tag[at] ^= 1 << bit
				refuse("another bit", x.key, x.b, tag)
				tag[at] ^= 1 << bit
			}
			refuse("a part", x.key, x.b, tag[:at])
			refuse("a part with its end behind", x.key, x.b, tag[:at:at])
			refuse("an end", x.key, x.b, tag[at+1:])
		}
		refuse("nil", x.key, x.b, nil)
		refuse("nothing", x.key, x.b, []byte{})
		refuse("noughts", x.key, x.b, make([]byte, 20))
		refuse("more", x.key, x.b, append(slices.Clone(tag), 0))
		refuse("twice", x.key, x.b, append(slices.Clone(tag), tag...))
		refuse("its digits", x.key, x.b, []byte(hexOf(tag)))
		refuse("the digest", x.key, x.b, digest.Sha(x.b))
		refuse("another key", append([]byte("k"), x.key...), x.b, tag)
		refuse("other bytes", x.key, append([]byte("b"), x.b...), tag)
		refuse("more bytes", x.key, append(slices.Clone(x.b), 0), tag)
		if len(x.b) > 0 {
			refuse("the one for the other", x.b, x.key, tag)
			refuse("fewer bytes", x.key, x.b[1:], tag)
			refuse("bytes of the key", append(slices.Clone(x.key), x.b[0]), x.b[1:], tag)
		}
		if !digest.Right(x.key, x.b, tag) {
			t.Error(i, "not right")
		}
	}
}

func TestP103Examples(t *testing.T) {
	for b, want := range map[string]string{
		"": "", "a": "YQ==", "ab": "YWI=", "abc": "YWJj", "f": "Zg==", "fo": "Zm8=", "foo": "Zm9v", "foob": "Zm9vYg==", "fooba": "Zm9vYmE=", "foobar": "Zm9vYmFy",
		"the sample nonce": "dGhlIHNhbXBsZSBub25jZQ==", "\x00": "AA==", "\x00\x00": "AAA=", "\x00\x00\x00": "AAAA", "\xff": "/w==", "\xff\xff": "//8=", "\xff\xff\xff": "////", "\xfb\xef\xbe": "++++", "\xfb\xff": "+/8=",
	} {
		if s := digest.Encode([]byte(b)); s != want {
			t.Errorf("%q %q", b, s)
		}
		if x, e := digest.Decode(want); string(x) != b || e != api.OK {
			t.Errorf("%q %q %v", want, x, e)
		}
	}
	if s := digest.Encode(nil); s != "" {
		t.Error(s)
	}
}

// TestP103Signs: each number has its sign, wherever of the four it stands.
func TestP103Signs(t *testing.T) {
	const signs = "ABCDEFGHIJKLMNOPQRSTUVWXYZabcdefghijklmnopqrstuvwxyz0123456789+/"
	for i := range 64 {
		for place := range 4 {
			n := i << (18 - 6*place)
			want := []byte("AAAA")
			want[place] = signs[i]
			b := []byte{byte(n >> 16), byte(n >> 8), byte(n)}
			if s := digest.Encode(b); s != string(want) {
				t.Error(i, place, s)
			}
			if x, e := digest.Decode(string(want)); !bytes.Equal(x, b) || e != api.OK {
				t.Error(i, place, x, e)
			}
		}
	}
}

func TestP103Refused(t *testing.T) {
	for _, s := range []string{
		"YR==", "YQ", // The document's own.
		"Y", "YQ=", "YWJ", "YWI", "YWJjY", "YWJjYQ", "YWJjYQ=", "YWJjYWI", // Signs are missing.
		"=", "==", "===", "====", "Y===", "=YQ=", "YQ=a", "Y=Q=", "=YWJ", "Y=WJ", "YW=J", "YWJj=", "YWJj==", "YWJj====", "YQ===", "YQ==a", "YQ==YQ==", "YWI=YWI=", "YQ==YWJj", "YWI=YWJj", "YQ==AAAA", "AAA=AAAA", "====YWJj", "YQ=======", "YQ======", "YWI=====", // Fillings that are too many, or not at the end.
		"YX==", "Yf==", "Yh==", "YQB=", "YWJ=", "YWK=", "YWL=", "YWJjYR==", "YWJjYWJ=", "/x==", "//9=", "//+=", // Bits that are missing are not 0.
		" YQ==", "YQ== ", "YQ==\n", "\nYQ==", "YQ\n==", "Y Q=", "YW\r\n", "YW\nJj", "YWJj\n", "\r\n\r\n", "YQ==\x00", "Y\x00==", "Y!==", "YW-_", "-_-_", "Y.Q=", "YQ,=", "YQ%3D", "@YQ=", "[YQ=", "`YQ=", "{YQ=", "YQ:=", "Y*Q=", "Y,Q=", "äöüß", "YQ=é", "YW\u00cd", "\xff\xff\xff\xff", "YWJ\xea", "ｱＡ", // None of the signs.
	} {
		if b, e := digest.Decode(s); b != nil || e != api.ErrBase {
			t.Errorf("%q %q %v", s, b, e)
		}
	}
}

// held holds what is decoded against the words.
func held(t *testing.T, s string) {
	want, fine := decodeOf(s)
	b, e := digest.Decode(s)
	if fine && (!bytes.Equal(b, want) || e != api.OK) || !fine && (b != nil || e != api.ErrBase) {
		t.Fatalf("%q %q %v", s, b, e)
	}
}

// TestP103ShortTexts: all texts of up to five of a few signs, others among them.
func TestP103ShortTexts(t *testing.T) {
	const few = "AQgw9+/=\n-\x80"
	texts := []string{""}
	for range 5 {
		var longer []string
		for _, s := range texts {
			held(t, s)
			for i := range len(few) {
				longer = append(longer, s+few[i:i+1])
			}
		}
		texts = longer
	}
	for _, s := range texts {
		held(t, s)
	}
}

// TestP103OfEach: all that may stand ahead of fillings, and each other byte in each place of right texts.
func TestP103OfEach(t *testing.T) {
	for i := range 256 {
		for j := range 256 {
			c := string([]byte{byte(i), byte(j)})
			held(t, c+"==")
			held(t, "A"+c+"=")
			held(t, "YWJj"+c[1:]+"A"+c[:1]+"=")
		}
	}
	for n := range 14 {
		s := []byte(digest.Encode(noise(n, n)))
		for i, was := range s {
			for j := range 256 {
				s[i] = byte(j)
				held(t, string(s))
			}
			s[i] = was
			held(t, string(s[:i]))
			held(t, string(s[i:]))
			held(t, string(slices.Insert(slices.Clone(s), i, '=')))
			held(t, string(slices.Insert(slices.Clone(s), i, 'A')))
			held(t, string(slices.Insert(slices.Clone(s), i, 'A', 'A', 'A', '=')))
			held(t, string(slices.Insert(slices.Clone(s), i, 'A', 'A', '=', '=')))
			held(t, string(slices.Delete(slices.Clone(s), i, i+1)))
		}
	}
}

// TestP103Encode holds texts against the words, and against another program that is known to tell them.
func TestP103Encode(t *testing.T) {
	try := func(b []byte) {
		s := digest.Encode(b)
		if s != base64.StdEncoding.EncodeToString(b) {
			t.Fatal(show(b), show(s))
		}
		if len(b) < 300 && s != encodeOf(b) {
			t.Fatal("the words", show(b), show(s))
		}
	}
	for i := range 256 {
		try([]byte{byte(i)})
		for j := range 256 {
			try([]byte{byte(i), byte(j)})
			try([]byte{byte(j * 7), byte(i), byte(j)})
		}
	}
	for n := range 1100 {
		try(noise(n, n))
		try(make([]byte, n))
		try(bytes.Repeat([]byte{255}, n))
		// Room behind a row's end is none of its bytes.
		if s := digest.Encode(spared(noise(n, n))); s != base64.StdEncoding.EncodeToString(noise(n, n)) {
			t.Fatal(n, show(s))
		}
	}
	try(noise(1<<20+1, 3))
}

func TestP103Hex(t *testing.T) {
	for b, want := range map[string]string{"": "", "\x00": "00", "\x09\x0a\x0f": "090a0f", "\x10\x90\xa0\xf0": "1090a0f0", "\xff\xff": "ffff", "abc": "616263", "\x01\x23\x45\x67\x89\xab\xcd\xef": "0123456789abcdef"} {
		if s := digest.Hex([]byte(b)); s != want {
			t.Errorf("%q %q", b, s)
		}
	}
	if s := digest.Hex(nil); s != "" {
		t.Error(s)
	}
	for i := range 256 {
		if s := digest.Hex([]byte{byte(i)}); s != hexOf([]byte{byte(i)}) {
			t.Error(i, s)
		}
	}
	for n := range 300 {
		if s := digest.Hex(noise(n, n)); s != hexOf(noise(n, n)) || len(s) != 2*n {
			t.Error(n, s)
		}
	}
}

// TestP105ThereAndBack: what was encoded is decoded, in as many signs as are promised, and what is decoded is encoded as it was.
func TestP105ThereAndBack(t *testing.T) {
	try := func(b []byte) {
		s := digest.Encode(b)
		got, e := digest.Decode(s)
		if e != api.OK || !bytes.Equal(got, b) || len(s) != (len(b)+2)/3*4 {
			t.Fatal(show(b), show(s), e)
		}
	}
	try(nil)
	for i := range 256 {
		try([]byte{byte(i)})
		for j := range 256 {
			try([]byte{byte(i), byte(j)})
			try([]byte{byte(i), byte(j), byte(i * j)})
		}
	}
	for n := range 1100 {
		try(noise(n, n))
		try(make([]byte, n))
		try([]byte(digest.Encode(noise(n, n))))
	}
	try(noise(1<<20, 5))
}

// TestP105BackAndThere: of all texts that end in a few signs, those that are read are written so.
func TestP105BackAndThere(t *testing.T) {
	const signs = "ABCDEFGHIJKLMNOPQRSTUVWXYZabcdefghijklmnopqrstuvwxyz0123456789+/="
	read := 0
	for _, ahead := range []string{"", "YWJj"} {
		for i := range len(signs) {
			for j := range len(signs) {
				for k := range len(signs) {
					for _, last := range "=A" {
						s := ahead + signs[i:i+1] + signs[j:j+1] + signs[k:k+1] + string(last)
						b, e := digest.Decode(s)
						if e == api.OK {
							read++
						}
						if e == api.OK && digest.Encode(b) != s || e != api.OK && (b != nil || e != api.ErrBase) {
							t.Fatal(s, b, e)
						}
					}
				}
			}
		}
	}
	// One byte, two bytes, and three of which the last six bits are 0.
	if want := 2 * (1<<8 + 1<<16 + 1<<18); read != want {
		t.Error(read, want)
	}
}

func TestP105Sizes(t *testing.T) {
	for n := range 300 {
		if d := digest.Sha(noise(n, n)); len(d) != 20 {
			t.Error(n, len(d))
		}
		if d := digest.Tag(noise(n, n), noise(n, n+1)); len(d) != 20 {
			t.Error(n, len(d))
		}
	}
}
