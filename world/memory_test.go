package world_test

import (
	"fmt"
	"math"
	"math/rand"
	"reflect"
	"testing"

	"commonplace/api"
	"commonplace/world"
)

// roomy: the same value, with spare room behind each list of it, in which there is something.
func roomy[T any](x T) T { return roomyValue(reflect.ValueOf(x)).Interface().(T) }

func roomyValue(v reflect.Value) reflect.Value {
	out := reflect.New(v.Type()).Elem()
	switch v.Kind() {
	case reflect.Struct:
		for i := range v.NumField() {
			out.Field(i).Set(roomyValue(v.Field(i)))
		}
	case reflect.Slice:
		out.Set(reflect.MakeSlice(v.Type(), v.Len()+3, v.Len()+3))
		for i := range v.Len() {
			out.Index(i).Set(roomyValue(v.Index(i)))
		}
		for i := range 3 {
			fill(out.Index(v.Len() + i))
		}
		out.SetLen(v.Len())
	default:
		out.Set(v)
	}
	return out
}

// fill a value that stands in spare room.
func fill(v reflect.Value) {
	switch v.Kind() {
	case reflect.Struct:
		for i := range v.NumField() {
			fill(v.Field(i))
		}
	case reflect.Int:
		v.SetInt(77)
	case reflect.String:
		v.SetString("spare")
	}
}

// whole: all that a value has, the spare room too.
func whole(v reflect.Value) string {
	switch v.Kind() {
	case reflect.Struct:
		out := "{"
		for i := range v.NumField() {
			out += whole(v.Field(i)) + " "
		}
		return out + "}"
	case reflect.Slice:
		out := fmt.Sprint(v.Len(), "[")
		for i := range v.Cap() {
			out += whole(v.Slice(0, v.Cap()).Index(i)) + " "
		}
		return out + "]"
	}
	return fmt.Sprintf("%#v", v.Interface())
}

// memory: where lists are, and whose they are.
type memory map[uintptr]string

// add all lists of a value; tells which of them share memory, if there are any.
func (m memory) add(name string, v reflect.Value) string {
	var shared string
	switch v.Kind() {
	case reflect.Struct:
		for i := range v.NumField() {
			shared += m.add(name+"."+v.Type().Field(i).Name, v.Field(i))
		}
	case reflect.Slice:
		for i := range v.Cap() {
			at := v.Pointer() + uintptr(i)*v.Type().Elem().Size()
			if m[at] != "" {
				return name + " and " + m[at] + "; "
			}
			m[at] = name
		}
		for i := range v.Len() {
			shared += m.add(fmt.Sprint(name, i), v.Index(i))
		}
	}
	return shared
}

// someHappenings: of each kind some that change something, and some that do not.
func someHappenings() []api.Happening {
	return []api.Happening{put(0, 1, "new"), put(0, 0, ""), take(1, 1, 2), take(1, 300, 2), write(2, "Hiya"), write(2, "\n"),
		send(0), send(2), lost(send(1)), pull(0, 300), pull(2, 1), lost(pull(2, 1)), pull(0, 0)}
}

// answers of all kinds, of one world like right.
func answers(t *testing.T, w api.World, l []api.Happening) []api.World {
	t.Helper()
	var out []api.World
	add := func(x api.World, e api.Errno) {
		if e != api.OK {
			t.Fatalf("%d", e)
		}
		out = append(out, x)
	}
	for _, h := range l {
		add(world.Do(w, h))
	}
	add(world.Run(w, l))
	add(world.Run(w, nil))
	add(world.Settle(w))
	return out
}

func TestP2NewMemory(t *testing.T) {
	w, l := roomy(right(t)), roomy(someHappenings())
	was := whole(reflect.ValueOf(w)) + whole(reflect.ValueOf(l))
	if e := world.Check(w); e != api.OK {
		t.Fatal(e)
	}
	m := memory{}
	for i, x := range append(answers(t, w, l), newWorld(t, 5), newWorld(t, 5), w) {
		if shared := m.add(fmt.Sprint("world ", i), reflect.ValueOf(x)); shared != "" {
			t.Error(shared, "share memory")
		}
	}
	if is := whole(reflect.ValueOf(w)) + whole(reflect.ValueOf(l)); is != was {
		t.Errorf("what was handed in is not as it was:\n%s\n%s", was, is)
	}
}

// Lists without elements may be nil or not.
func TestP2EmptyLists(t *testing.T) {
	w := with(newWorld(t, 2), 1, func(c *api.Client) {
		c.Desk.State = api.State{Atoms: []api.Atom{}, Gone: []api.Mark{}}
		c.Desk.Waits, c.Desk.Out = []api.Note{}, []api.Note{}
	})
	w.Relay.Log = []api.Note{}
	if got := do(t, w, put(1, 0, "a"), send(1), pull(0, 1)); textOf(got.Clients[0].Desk) != "a" {
		t.Errorf("%+v", got)
	}
	if got, e := world.Run(w, []api.Happening{}); e != api.OK || !same(got, w) {
		t.Errorf("%+v, %d", got, e)
	}
	if got := settle(t, w); !same(got, w) {
		t.Errorf("%+v", got)
	}
}

func TestP3SameEachTime(t *testing.T) {
	first := answers(t, right(t), someHappenings())
	do(t, newWorld(t, 5), put(4, 0, "else"), send(4), pull(3, 9))
	for range 3 {
		if again := answers(t, roomy(right(t)), someHappenings()); !same(again, first) {
			t.Fatalf("%+v, then %+v", first, again)
		}
	}
}

// spoil something of a value, drawn.
func spoil(draw *rand.Rand, v reflect.Value) {
	switch v.Kind() {
	case reflect.Struct:
		spoil(draw, v.Field(draw.Intn(v.NumField())))
	case reflect.Slice:
		spoilList(draw, v)
	case reflect.Int:
		odd := []int{math.MinInt, -1, 0, 1, 2, 5, 10, 60, 61, 200, 201, 300, 301, 500, 501, 10000, 10001, 10002, math.MaxInt}
		v.SetInt(int64(odd[draw.Intn(len(odd))]))
	case reflect.Uint8:
		v.SetUint(uint64(draw.Intn(256)))
	case reflect.String:
		v.SetString([]string{"", "a", "\x7f", xs(60), xs(61), xs(301)}[draw.Intn(6)])
	case reflect.Bool:
		v.SetBool(!v.Bool())
	}
}

// spoilList: it is shorter, or longer, or something of it is spoilt.
func spoilList(draw *rand.Rand, v reflect.Value) {
	switch draw.Intn(8) {
	case 0:
		v.Set(v.Slice(0, draw.Intn(v.Len()+1)))
	case 1:
		v.Set(reflect.Append(v, reflect.New(v.Type().Elem()).Elem()))
	case 2:
		if v.Len() > 0 {
			v.Set(reflect.Append(v, v.Index(draw.Intn(v.Len()))))
		}
	default:
		if v.Len() > 0 {
			spoil(draw, v.Index(draw.Intn(v.Len())))
		}
	}
}

// checkWhatever: no call panics; with an error there is no world; without one it is right.
func checkWhatever(t *testing.T, w api.World, l []api.Happening) {
	t.Helper()
	wrong := world.Check(w)
	check := func(got api.World, e api.Errno) {
		t.Helper()
		switch {
		case wrong != api.OK && e != wrong:
			t.Fatalf("%d, and Check says %d: %+v, %+v", e, wrong, w, l)
		case e != api.OK && !isZero(got):
			t.Fatalf("%d, and a world: %+v", e, got)
		case e == api.OK && world.Check(got) != api.OK:
			t.Fatalf("what comes is wrong: %d: %+v, %+v", world.Check(got), w, l)
		}
	}
	for _, h := range l {
		check(world.Do(w, h))
	}
	check(world.Run(w, l))
	check(world.Settle(w))
}

func TestP1Whatever(t *testing.T) {
	draw := rand.New(rand.NewSource(1))
	base := right(t)
	odd := 0
	for range 3000 {
		w, l := roomy(base), roomy(someHappenings())
		for range 1 + draw.Intn(3) {
			spoil(draw, reflect.ValueOf(&w).Elem())
		}
		spoil(draw, reflect.ValueOf(&l).Elem())
		checkWhatever(t, w, l)
		if world.Check(w) == api.OK {
			odd++
		}
	}
	if odd < 100 {
		t.Errorf("only %d of them are right", odd)
	}
}

func TestP4Many(t *testing.T) {
	const many = 1 << 20
	for name, x := range map[string]struct {
		change func(w *api.World)
		want   api.Errno
	}{
		"clients": {func(w *api.World) { w.Clients = make([]api.Client, many) }, api.ErrRange},
		"notes":   {func(w *api.World) { w.Relay.Log = make([]api.Note, many) }, api.ErrMany},
		"atoms":   {func(w *api.World) { w.Clients[1].Desk.State.Atoms = make([]api.Atom, many) }, api.ErrMany},
	} {
		w := right(t)
		x.change(&w)
		if e := world.Check(w); e != x.want {
			t.Errorf("%s: %d", name, e)
		}
		if got, e := world.Settle(w); e != x.want || !isZero(got) {
			t.Errorf("%s: Settle: %d", name, e)
		}
	}
	w := right(t)
	if got, e := world.Do(w, write(0, xs(many))); e != api.ErrMany || !isZero(got) {
		t.Errorf("a long text: %d", e)
	}
	if got, e := world.Run(w, make([]api.Happening, many)); e != api.ErrMany || !isZero(got) {
		t.Errorf("a long script: %d", e)
	}
}

// As much as may be: all desks have all their notes Out, and the relay takes as many as it has room for.
func TestP4AllOut(t *testing.T) {
	w := newWorld(t, api.MaxSites)
	for who := range w.Clients {
		d := &w.Clients[who].Desk
		d.Out, d.Seen[who], d.Clock = notes(who, 1, api.MaxNumber), api.MaxNumber, 501
	}
	w = settle(t, w)
	if len(w.Relay.Log) != api.MaxLog || len(w.Clients[0].Desk.Out) != 200 || len(w.Clients[1].Desk.Out) != 500 {
		t.Errorf("%d notes, %d and %d out", len(w.Relay.Log), len(w.Clients[0].Desk.Out), len(w.Clients[1].Desk.Out))
	}
	for who, c := range w.Clients[1:] {
		if c.Cursor != api.MaxLog || c.Desk.Seen[0] != api.MaxLog {
			t.Errorf("client %d: cursor %d, seen %v", who+1, c.Cursor, c.Desk.Seen)
		}
	}
}
