package sign_test

import (
	"testing"

	"commonplace/sign"
)

func TestIs(t *testing.T) {
	for b := range 256 {
		want := b >= 32 && b <= 126
		if sign.Is(byte(b)) != want {
			t.Errorf("Is of %d is not %v", b, want)
		}
		if sign.All("a"+string([]byte{byte(b)})+"b") != want {
			t.Errorf("All of a text with %d is not %v", b, want)
		}
	}
}

func TestAll(t *testing.T) {
	for text, want := range map[string]bool{"": true, " ~": true, "a\n": false, "\x7fa": false, "é": false, "\xff": false} {
		if sign.All(text) != want {
			t.Errorf("All of %q is not %v", text, want)
		}
	}
}

func TestEach(t *testing.T) {
	for _, text := range []string{"", "a", "hello", "é\xff\x00"} {
		var got []byte
		sign.Each(text, func(at int, b byte) {
			if at != len(got) {
				t.Errorf("%q: place %d comes behind %d others", text, at, len(got))
			}
			got = append(got, b)
		})
		if string(got) != text {
			t.Errorf("the signs of %q are %q", text, got)
		}
	}
}
