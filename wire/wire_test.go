package wire_test

import (
	"math/rand"
	"strings"
	"testing"

	"commonplace/api"
	"commonplace/wire"
)

func TestH2Bytes(t *testing.T) {
	steps := strings.Repeat("\xc8\x04", 9) + "\x8d\x04" + "\xd5\x26"
	for name, c := range map[string]struct {
		n    api.Note
		want string
	}{
		"one":       {note(), noteBytes()},
		"the least": {least(), head(1) + "\x02\x01\x01\x00\x01\x00\x01"},
		"the greatest": {greatest(), "\x04\xf4\x01" + strings.Repeat("\xf4\x01", 4) + "\xf3\x01\x14" +
			strings.Repeat("\x01\x0a"+steps+"\x3c"+strings.Repeat("~", 60)+"\x02\x0a"+steps+"\x3c", 10)},
	} {
		if s, e := wire.Encode(c.n); e != api.OK || s != c.want {
			t.Errorf("%s: %q, %d", name, s, e)
		}
		if n, e := wire.Decode(c.want); e != api.OK || !same(n, c.n) {
			t.Errorf("%s, decoded: %v, %d", name, n, e)
		}
	}
}

func TestH2EncodeErrors(t *testing.T) {
	for _, all := range []map[string]wrongNote{wrongNotes(), wrongDeeds()} {
		for name, c := range all {
			if s, e := wire.Encode(c.n); e != c.want || s != "" {
				t.Errorf("%s: %q, %d", name, s, e)
			}
		}
	}
}

func TestH2NoNote(t *testing.T) {
	right := noteBytes()
	for k := range len(right) {
		if n, e := wire.Decode(right[:k]); e != api.ErrForm || !isZero(n) {
			t.Errorf("the first %d bytes: %v, %d", k, n, e)
		}
	}
	for name, s := range map[string]string{
		"a byte behind":                    right + "\x00",
		"twice":                            right + right,
		"a deed fewer than there are":      head(1) + "\x02\x01\x01\x00\x01\x00\x01" + "\x02\x01\x01\x00\x01\x00\x01",
		"a deed more than there are":       head(2) + "\x02\x01\x01\x00\x01\x00\x01",
		"as many deeds as a byte can tell": head(255) + "\x02\x01\x01\x00\x01\x00\x01",
		"a step more than there are":       head(1) + "\x02\x02\x01\x00\x01\x00\x01",
		"as many steps as can be told":     head(1) + "\x02\xff\x01\x00\x01\x00\x01",
		"a sign more than there are":       head(1) + "\x01\x01\x01\x00\x01\x00\x02a",
		"a sign fewer than there are":      head(1) + "\x01\x01\x01\x00\x01\x00\x01ab",
		"no deeds, and a byte":             head(0) + "\x02",
		"kind 0":                           head(1) + "\x00\x01\x01\x00\x01\x00\x01",
		"kind 3":                           head(1) + "\x03\x01\x01\x00\x01\x00\x01",
		"kind 255":                         head(1) + "\xff",
		"kind 3 alone":                     head(1) + "\x03",
		"a deed of each kind, and none":    head(3) + "\x02\x01\x01\x00\x01\x00\x01" + "\x01\x01\x01\x00\x01\x00\x01a" + "\x00",
		"other signs":                      "hello",
		"runes":                            strings.Repeat("é", 40),
	} {
		if n, e := wire.Decode(s); e != api.ErrForm || !isZero(n) {
			t.Errorf("%s: %v, %d", name, n, e)
		}
	}
}

// Bytes of a note that is wrong: what Check says of it.
func TestH2DecodeErrors(t *testing.T) {
	needs := strings.Repeat("\x00", 10)
	deed := "\x02\x01\x01\x00\x01\x00\x01"
	for name, c := range map[string]struct {
		s    string
		want api.Errno
	}{
		"site 5":                       {"\x05\x01\x00" + needs + "\x01" + deed, api.ErrRange},
		"site 255":                     {"\xff\x01\x00" + needs + "\x01" + deed, api.ErrRange},
		"number 0":                     {"\x00\x00\x00" + needs + "\x01" + deed, api.ErrRange},
		"number 501":                   {"\x00\xf5\x01" + needs + "\x01" + deed, api.ErrRange},
		"number 256, not 1":            {"\x00\x00\x01" + needs + "\x01" + deed, api.ErrState},
		"a need of 501":                {"\x00\x01\x00" + needs[:8] + "\xf5\x01" + "\x01" + deed, api.ErrRange},
		"needs its own":                {"\x00\x01\x00" + "\x01\x00" + needs[:8] + "\x01" + deed, api.ErrState},
		"no deeds":                     {head(0), api.ErrForm},
		"21 deeds":                     {head(21) + strings.Repeat(deed, 21), api.ErrMany},
		"255 deeds":                    {head(255) + strings.Repeat(deed, 255), api.ErrMany},
		"no steps":                     {head(1) + "\x02\x00\x01\x00\x01", api.ErrForm},
		"11 steps":                     {head(1) + "\x02\x0b" + strings.Repeat("\x01\x00", 11) + "\x01\x00\x01", api.ErrMany},
		"255 steps":                    {head(1) + "\x01\xff" + strings.Repeat("\x01\x00", 255) + "\x01\x00\x01a", api.ErrMany},
		"digit 201":                    {head(1) + "\x02\x01\xc9\x00\x01\x00\x01", api.ErrRange},
		"last digit 0":                 {head(1) + "\x02\x01\x00\x00\x01\x00\x01", api.ErrRange},
		"a step of site 5":             {head(1) + "\x02\x01\x01\x05\x01\x00\x01", api.ErrRange},
		"clock 0":                      {head(1) + "\x02\x01\x01\x00\x00\x00\x01", api.ErrRange},
		"clock 10001":                  {head(1) + "\x02\x01\x01\x00\x11\x27\x01", api.ErrRange},
		"many 0":                       {head(1) + "\x02\x01\x01\x00\x01\x00\x00", api.ErrRange},
		"many 61":                      {head(1) + "\x02\x01\x01\x00\x01\x00\x3d", api.ErrRange},
		"no signs":                     {head(1) + "\x01\x01\x01\x00\x01\x00\x00", api.ErrForm},
		"61 signs":                     {head(1) + "\x01\x01\x01\x00\x01\x00\x3d" + xs(61), api.ErrMany},
		"sign 31":                      {head(1) + "\x01\x01\x01\x00\x01\x00\x01\x1f", api.ErrRange},
		"sign 127":                     {head(1) + "\x01\x01\x01\x00\x01\x00\x01\x7f", api.ErrRange},
		"signs beyond the last digit":  {head(1) + "\x01\x01\xc8\x00\x01\x00\x02ab", api.ErrRange},
		"form ahead of range":          {"\x05\x01\x00" + needs + "\x01" + deed + "\x00", api.ErrForm},
		"kind ahead of range":          {"\x05\x01\x00" + needs + "\x01" + "\x03" + deed[1:], api.ErrForm},
		"kind ahead of many":           {head(21) + strings.Repeat(deed, 20) + "\x03", api.ErrForm},
		"an end ahead of many":         {head(21) + strings.Repeat(deed, 20), api.ErrForm},
		"kind ahead of a deed's wrong": {head(2) + "\x02\x01\xc9\x00\x01\x00\x01" + "\x00", api.ErrForm},
	} {
		if n, e := wire.Decode(c.s); e != c.want || !isZero(n) {
			t.Errorf("%s: %v, %d", name, n, e)
		}
	}
}

func TestH3DecodedAsItWas(t *testing.T) {
	draw := rand.New(rand.NewSource(3))
	for range 2000 {
		n := drawNote(draw)
		s, e := wire.Encode(n)
		if e != api.OK {
			t.Fatalf("%v: %d", n, e)
		}
		if got, e := wire.Decode(s); e != api.OK || !same(got, n) {
			t.Fatalf("%v: %v, %d", n, got, e)
		}
	}
}

// onlyEncoded: what Decode takes is what Encode makes, of a note that is right.
func onlyEncoded(t *testing.T, s string) bool {
	n, e := wire.Decode(s)
	if e != api.OK {
		if !isZero(n) {
			t.Fatalf("%q: %v, with %d", s, n, e)
		}
		return false
	}
	if again, e := wire.Encode(n); e != api.OK || again != s {
		t.Fatalf("%q: %v, which is %q, %d", s, n, again, e)
	}
	return true
}

func TestH3NothingElse(t *testing.T) {
	s := noteBytes()
	right := 0
	for k := range len(s) {
		for b := range 256 {
			if onlyEncoded(t, s[:k]+string([]byte{byte(b)})+s[k+1:]) {
				right++
			}
		}
	}
	if right <= len(s) {
		t.Errorf("only %d are notes", right)
	}
	draw := rand.New(rand.NewSource(5))
	for range 20000 {
		n := drawNote(draw)
		n.Deeds = n.Deeds[:1+draw.Intn(min(2, len(n.Deeds)))]
		s, _ := wire.Encode(n)
		from, to := draw.Intn(len(s)), draw.Intn(len(s)+1)
		onlyEncoded(t, s[:to]+s[from:])
		onlyEncoded(t, s[:from]+string([]byte{byte(draw.Intn(256))})+s[from:])
	}
}

func TestP1WhateverBytes(t *testing.T) {
	draw := rand.New(rand.NewSource(9))
	for range 20000 {
		s := make([]byte, draw.Intn(80))
		for i := range s {
			s[i] = byte(draw.Intn(1 + draw.Intn(256)))
		}
		onlyEncoded(t, string(s))
	}
	for b := range 256 {
		onlyEncoded(t, strings.Repeat(string([]byte{byte(b)}), 1000))
	}
}
