package seal_test

import (
	"math"
	"strings"
	"testing"

	"weir/api"
	"weir/seal"
)

// expiries: 0, both ends, those round a byte's ends, and everyday moments.
func expiries() []int64 {
	out := []int64{0, 1, -1, 258, 1700000000000, api.MinTime, api.MaxTime, math.MaxInt64, math.MinInt64, math.MaxInt64 - 1, math.MinInt64 + 1, 0x0102030405060708, -0x0102030405060708}
	for n := range 63 {
		v := int64(1) << n
		out = append(out, v, v-1, -v, -v-1)
	}
	return out
}

// policies: none, the longest, ones of all kinds of bytes.
func policies() []string {
	return []string{"", "a", `a="b"`, `tenant="a.b" and env!="x"`, "\x00", "\xff", "\xff\xfe no utf \x80", "é", "\r\n", ".", "a.b", strings.Repeat("x", 1023), strings.Repeat("\xff", 1024), strings.Repeat("é", 512), strings.Repeat("\x00", 1024)}
}

func checkClaim(t *testing.T, c api.Claim, payload string) {
	t.Helper()
	if b, e := seal.Pack(c); e != api.OK || string(b) != payload {
		t.Errorf("Pack(%d, %.30q) = %.40q, %d, want %.40q", c.Expiry, c.Policy, b, e, payload)
	}
	if got, e := seal.Unpack([]byte(payload)); e != api.OK || got != c {
		t.Errorf("Unpack(%.40q) = %d, %.30q, %d, want %d, %.30q", payload, got.Expiry, got.Policy, e, c.Expiry, c.Policy)
	}
}

// P5.2: the chapter's examples, and other known payloads.
func TestClaimExamples(t *testing.T) {
	rows := []struct {
		expiry          int64
		policy, payload string
	}{
		{258, `a="b"`, "\x00\x00\x00\x00\x00\x00\x01\x02a=\"b\""},
		{-1, "", "\xff\xff\xff\xff\xff\xff\xff\xff"},
		{0, "", "\x00\x00\x00\x00\x00\x00\x00\x00"},
		{1, "\x00", "\x00\x00\x00\x00\x00\x00\x00\x01\x00"},
		{-2, "\xff", "\xff\xff\xff\xff\xff\xff\xff\xfe\xff"},
		{math.MaxInt64, "p", "\x7f\xff\xff\xff\xff\xff\xff\xffp"},
		{math.MinInt64, "p", "\x80\x00\x00\x00\x00\x00\x00\x00p"},
		{0x0102030405060708, "", "\x01\x02\x03\x04\x05\x06\x07\x08"},
		{1700000000000, `tenant="a"`, "\x00\x00\x01\x8b\xcf\xe5\x68\x00tenant=\"a\""},
	}
	for _, row := range rows {
		checkClaim(t, api.Claim{Expiry: row.expiry, Policy: row.policy}, row.payload)
	}
}

// P5.2: all expiries with all policies, by the chapter's words.
func TestClaimsByTheWords(t *testing.T) {
	for _, n := range expiries() {
		for _, p := range policies() {
			c := api.Claim{Expiry: n, Policy: p}
			checkClaim(t, c, wordsPack(c))
		}
	}
	r := someRand()
	for range 3000 {
		c := api.Claim{Expiry: int64(r.Uint64()) >> r.IntN(64), Policy: someText(r, r.IntN(40))}
		checkClaim(t, c, wordsPack(c))
	}
}

// P5.2: every length of a payload: too short, taken, too long.
func TestPayloadLengths(t *testing.T) {
	r := someRand()
	for n := range 1100 {
		payload := someText(r, n)
		c, e := seal.Unpack([]byte(payload))
		switch {
		case n < 8:
			if e != api.ErrPayload || c != (api.Claim{}) {
				t.Errorf("Unpack of %d bytes: %v, %d", n, c, e)
			}
		case n > 1032:
			if e != api.ErrLong || c != (api.Claim{}) {
				t.Errorf("Unpack of %d bytes: %d, %d", n, c.Expiry, e)
			}
		default:
			checkClaim(t, wordsUnpack(payload), payload)
		}
	}
	for _, payload := range []string{"", strings.Repeat("\xff", 7), strings.Repeat("\x00", 1033), strings.Repeat("a", 100000)} {
		want := api.ErrLong
		if len(payload) < 8 {
			want = api.ErrPayload
		}
		if c, e := seal.Unpack([]byte(payload)); e != want || c != (api.Claim{}) {
			t.Errorf("Unpack of %d bytes: %d, %d", len(payload), c.Expiry, e)
		}
	}
	if c, e := seal.Unpack(nil); e != api.ErrPayload || c != (api.Claim{}) {
		t.Errorf("Unpack(nil): %v, %d", c, e)
	}
}

// P5.2: policies at the limit and past it.
func TestPolicyLengths(t *testing.T) {
	for n := range 1100 {
		c := api.Claim{Expiry: 77, Policy: strings.Repeat("p", n)}
		if n <= 1024 {
			checkClaim(t, c, wordsPack(c))
			continue
		}
		if b, e := seal.Pack(c); e != api.ErrLong || len(b) != 0 {
			t.Errorf("Pack of a policy of %d bytes: %.20q, %d", n, b, e)
		}
	}
	// The limit counts bytes, not runes.
	if b, e := seal.Pack(api.Claim{Policy: strings.Repeat("é", 513)}); e != api.ErrLong || len(b) != 0 {
		t.Errorf("Pack of a policy of 1026 bytes: %.20q, %d", b, e)
	}
	if b, e := seal.Pack(api.Claim{Policy: strings.Repeat("p", 100000)}); e != api.ErrLong || len(b) != 0 {
		t.Errorf("Pack of a policy of 100000 bytes: %.20q, %d", b, e)
	}
}
