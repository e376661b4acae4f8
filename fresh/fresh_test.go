package fresh_test

import (
	"reflect"
	"testing"

	"commonplace/api"
	"commonplace/fresh"
)

func TestMark(t *testing.T) {
	room := []api.Step{{Digit: 3, Site: 1}, {Digit: 4, Site: 2}, {Digit: 77, Site: 7}}
	m := api.Mark{Path: room[:2], Clock: 5}
	got := fresh.Mark(m)
	if !reflect.DeepEqual(got, m) {
		t.Fatalf("the copy is %v", got)
	}
	got.Path[0].Digit = 99
	_ = append(got.Path, api.Step{Digit: 99})
	if room[0].Digit != 3 || room[2].Digit != 77 {
		t.Error("the copy shares memory")
	}
	if got := fresh.Mark(api.Mark{}); len(got.Path) != 0 || got.Clock != 0 {
		t.Errorf("the copy of nothing is %v", got)
	}
}
