package herald

import (
	"slices"
	"sort"
	"strings"
	"testing"

	"herald/api"
)

const (
	least    = -1 << 63
	greatest = 1<<63 - 1
)

func begin(t *testing.T, room int) *Herald {
	t.Helper()
	h, e := New("", room)
	if h == nil || e != api.OK {
		t.Fatalf("P12: New(\"\", %d) = %v, %d, want a broker and OK", room, h, e)
	}
	return h
}

func want(t *testing.T, what string, got, want api.Errno) {
	t.Helper()
	if got != want {
		t.Errorf("%s: %d, want %d", what, got, want)
	}
}

func wantFilters(t *testing.T, h *Herald, client int, want ...string) {
	t.Helper()
	if got := h.Filters(client); !slices.Equal(got, want) {
		t.Errorf("P9: Filters(%d) = %q, want %q", client, got, want)
	}
}

func subscribeAll(t *testing.T, h *Herald, client int, filters ...string) {
	t.Helper()
	for _, f := range filters {
		want(t, "P4: Subscribe of "+f, h.Subscribe(client, f), api.OK)
	}
}

func TestFits(t *testing.T) {
	for _, c := range []struct {
		filter, topic string
		fits          bool
	}{
		{"a/#", "a", true},
		{"a/#", "a/b", true},
		{"a/#", "a/b/c", true},
		{"a/#", "ab", false},
		{"+/b", "a/b", true},
		{"+/b", "a", false},
		{"#", "abc/d", true},
		{"#", "abc/abc/abc/abc", true},
		{"a/+", "a/b/c", false},
		{"a/+", "a", false},
		{"+", "ab", true},
		{"+", "a/b", false},
		{"a", "a", true},
		{"a", "b", false},
		{"abc", "abc", true},
		{"abc", "abd", false},
		{"ab", "abc", false},
		{"abc", "ab", false},
		{"a/b/c/d", "a/b/c/d", true},
		{"a/b/c/d", "a/b/c/e", false},
		{"a/b/c/d", "a/b/c", false},
		{"a/b/c", "a/b/c/d", false},
		{"a/b/c/#", "a/b/c", true},
		{"a/b/c/#", "a/b/c/d", true},
		{"a/b/c/#", "a/b", false},
		{"abc/def/ghi/jkl", "abc/def/ghi/jkl", true},
		{"+/+/+/+", "abc/def/ghi/jkl", true},
		{"+/+/#", "a", false},
		{"+/+/#", "a/b", true},
	} {
		if fits, e := Fits(c.filter, c.topic); fits != c.fits || e != api.OK {
			t.Errorf("P3: Fits(%q, %q) = %v, %d, want %v, OK", c.filter, c.topic, fits, e, c.fits)
		}
	}
}

// Each is neither a filter nor a topic.
var neither = []string{
	"", "/", "a/", "/a", "a//b", "abcd", "A", "a+", "+a", "a#", "##", "++", "#/a", "a/#/b", "a/#/", "#/#",
	"a/b/c/d/e", "a/b/c/d/", "abc/abc/abc/abcd", "abc/abc/abc/abc/", " ", "a ", "{", "`", "0", "\x00", "é",
	"abcabcabcabcabc", strings.Repeat("a/", 1<<20),
}

func TestFitsOfWrongTexts(t *testing.T) {
	for _, s := range neither {
		for _, topic := range []string{"a", "+", "a/", ""} {
			if fits, e := Fits(s, topic); fits || e != api.ErrFilter {
				t.Errorf("P3: Fits(%.40q, %q) = %v, %d, want false, ErrFilter", s, topic, fits, e)
			}
		}
		for _, filter := range []string{"#", "a", "+/b"} {
			if fits, e := Fits(filter, s); fits || e != api.ErrTopic {
				t.Errorf("P3: Fits(%q, %.40q) = %v, %d, want false, ErrTopic", filter, s, fits, e)
			}
		}
	}
	for _, s := range []string{"+", "#", "a/+", "a/#", "+/b"} {
		if fits, e := Fits(s, s); fits || e != api.ErrTopic {
			t.Errorf("P3: Fits(%q, %q) = %v, %d, want false, ErrTopic", s, s, fits, e)
		}
	}
}

func TestRoomThatMayBe(t *testing.T) {
	for _, room := range []int{0, 1, 250, api.MaxRoom} {
		h := begin(t, room)
		for client := 0; client < api.MaxClients; client++ {
			wantFilters(t, h, client)
		}
	}
	for _, room := range []int{least, -501, -1, api.MaxRoom + 1, 1000, 1 << 32, greatest} {
		if h, e := New("", room); h != nil || e != api.ErrRoom {
			t.Errorf("P12: New(\"\", %d) = %v, %d, want nil, ErrRoom", room, h, e)
		}
	}
}

// What New makes of texts that no broker wrote is left open, but for wrong room, and that it ends.
func TestNewOfOtherTexts(t *testing.T) {
	for _, disk := range []string{"x", "\x00", "\xff\xff\xff\xff", strings.Repeat("a", 1<<20)} {
		if h, e := New(disk, -1); h != nil || e != api.ErrRoom {
			t.Errorf("P12: New(%.10q, -1) = %v, %d, want nil, ErrRoom", disk, h, e)
		}
		h, e := New(disk, api.MaxRoom)
		if (h == nil) != (e == api.ErrRoom) || (h != nil) != (e == api.OK) {
			t.Errorf("P13: New(%.10q, %d) = %v, %d, want a broker and OK, or nil and ErrRoom", disk, api.MaxRoom, h, e)
		}
	}
}

// Each operation that is done takes one record of the room, and no other takes one.
func TestRoomIsUsedUp(t *testing.T) {
	for _, room := range []int{0, 1, 2, 3, 499, api.MaxRoom} {
		h := begin(t, room)
		for i := 0; i < room; i++ {
			want(t, "P4: Subscribe of no client", h.Subscribe(-1, "a"), api.ErrClient)
			want(t, "P4: Unsubscribe of no filter", h.Unsubscribe(0, ""), api.ErrFilter)
			if i%2 == 0 {
				want(t, "P4: Unsubscribe of what is not there", h.Unsubscribe(0, "a"), api.ErrNone)
				want(t, "P4: Subscribe with room", h.Subscribe(0, "a"), api.OK)
			} else {
				want(t, "P4: Subscribe twice", h.Subscribe(0, "a"), api.ErrTwice)
				want(t, "P4: Unsubscribe with room", h.Unsubscribe(0, "a"), api.OK)
			}
		}
		before := h.Filters(0)
		for i := 0; i < 3; i++ {
			want(t, "P4: Subscribe without room", h.Subscribe(0, "b"), api.ErrFull)
			want(t, "P4: Subscribe of another without room", h.Subscribe(7, "b"), api.ErrFull)
		}
		if room%2 == 1 {
			want(t, "P4: Unsubscribe without room", h.Unsubscribe(0, "a"), api.ErrFull)
		}
		wantFilters(t, h, 0, before...)
		wantFilters(t, h, 7)
	}
}

func TestErrorsAheadOfErrFull(t *testing.T) {
	h := begin(t, 6)
	subscribeAll(t, h, 0, "a", "b", "c", "d", "e", "f")
	want(t, "P4: Subscribe, full, client", h.Subscribe(8, "g"), api.ErrClient)
	want(t, "P4: Subscribe, full, filter", h.Subscribe(0, "g/"), api.ErrFilter)
	want(t, "P4: Subscribe, full, twice", h.Subscribe(0, "f"), api.ErrTwice)
	want(t, "P4: Subscribe, full, many", h.Subscribe(0, "g"), api.ErrMany)
	want(t, "P4: Subscribe, full", h.Subscribe(1, "g"), api.ErrFull)
	want(t, "P4: Unsubscribe, full, client", h.Unsubscribe(8, "a"), api.ErrClient)
	want(t, "P4: Unsubscribe, full, filter", h.Unsubscribe(0, "a/"), api.ErrFilter)
	want(t, "P4: Unsubscribe, full, none", h.Unsubscribe(0, "g"), api.ErrNone)
	want(t, "P4: Unsubscribe, full", h.Unsubscribe(0, "a"), api.ErrFull)
	wantFilters(t, h, 0, "a", "b", "c", "d", "e", "f")
	wantFilters(t, h, 1)
}

func TestNoSuchClient(t *testing.T) {
	h := begin(t, api.MaxRoom)
	for _, client := range []int{least, -8, -1, api.MaxClients, 9, 1 << 32, greatest} {
		for _, filter := range []string{"a", "#", "", "a/"} {
			want(t, "P4: Subscribe of no client", h.Subscribe(client, filter), api.ErrClient)
			want(t, "P4: Unsubscribe of no client", h.Unsubscribe(client, filter), api.ErrClient)
		}
		if l := h.Filters(client); l != nil {
			t.Errorf("P9: Filters(%d) = %q, want nil", client, l)
		}
	}
}

func TestEachClientHasItsOwnFilters(t *testing.T) {
	h := begin(t, api.MaxRoom)
	own := []string{"a", "b", "c", "d", "e", "f", "g", "h"}
	for client := 0; client < api.MaxClients; client++ {
		subscribeAll(t, h, client, "#", own[client])
	}
	want(t, "P4: Unsubscribe", h.Unsubscribe(3, "#"), api.OK)
	want(t, "P4: Unsubscribe of another's", h.Unsubscribe(3, "e"), api.ErrNone)
	for client := 0; client < api.MaxClients; client++ {
		if client == 3 {
			wantFilters(t, h, client, "d")
		} else {
			wantFilters(t, h, client, "#", own[client])
		}
	}
}

func TestNoFilter(t *testing.T) {
	h := begin(t, api.MaxRoom)
	subscribeAll(t, h, 0, "a")
	for _, s := range neither {
		want(t, "P4: Subscribe of no filter", h.Subscribe(0, s), api.ErrFilter)
		want(t, "P4: Unsubscribe of no filter", h.Unsubscribe(0, s), api.ErrFilter)
	}
	wantFilters(t, h, 0, "a")
}

func TestSixFilters(t *testing.T) {
	h := begin(t, api.MaxRoom)
	subscribeAll(t, h, 0, "b", "a", "#", "a/b", "+", "ab")
	want(t, "P4: a seventh", h.Subscribe(0, "c"), api.ErrMany)
	want(t, "P4: a seventh that is no filter", h.Subscribe(0, "c/"), api.ErrFilter)
	want(t, "P4: one of six once more", h.Subscribe(0, "b"), api.ErrTwice)
	wantFilters(t, h, 0, "#", "+", "a", "a/b", "ab", "b")
	want(t, "P4: Unsubscribe", h.Unsubscribe(0, "a/b"), api.OK)
	want(t, "P4: Unsubscribe once more", h.Unsubscribe(0, "a/b"), api.ErrNone)
	wantFilters(t, h, 0, "#", "+", "a", "ab", "b")
	want(t, "P4: a sixth again", h.Subscribe(0, "c"), api.OK)
	want(t, "P4: a seventh again", h.Subscribe(0, "a/b"), api.ErrMany)
	wantFilters(t, h, 0, "#", "+", "a", "ab", "b", "c")
}

// A filter that fits what another fits is still another filter.
func TestFiltersAreToldApartByTheirBytes(t *testing.T) {
	h := begin(t, api.MaxRoom)
	subscribeAll(t, h, 0, "#", "+/#")
	want(t, "P4: Unsubscribe of one that fits it", h.Unsubscribe(0, "+"), api.ErrNone)
	want(t, "P4: Unsubscribe of one that it fits", h.Unsubscribe(0, "a"), api.ErrNone)
	wantFilters(t, h, 0, "#", "+/#")
}

// All orders in which six filters may come, and all in which they may go.
func TestFiltersInEveryOrder(t *testing.T) {
	sorted := []string{"#", "+/#", "a", "a/b", "ab", "abc/def/ghi/jkl"}
	for _, order := range orders(sorted) {
		h := begin(t, api.MaxRoom)
		var has []string
		for _, f := range order {
			want(t, "P4: Subscribe", h.Subscribe(5, f), api.OK)
			has = append(has, f)
			sort.Strings(has)
			wantFilters(t, h, 5, has...)
		}
		for _, f := range order {
			want(t, "P4: Unsubscribe", h.Unsubscribe(5, f), api.OK)
			at := slices.Index(has, f)
			has = slices.Delete(has, at, at+1)
			wantFilters(t, h, 5, has...)
		}
	}
}

func orders(list []string) [][]string {
	if len(list) == 0 {
		return [][]string{nil}
	}
	var all [][]string
	for i := range list {
		rest := append(append([]string(nil), list[:i]...), list[i+1:]...)
		for _, o := range orders(rest) {
			all = append(all, append([]string{list[i]}, o...))
		}
	}
	return all
}

func TestListsAreFresh(t *testing.T) {
	h := begin(t, api.MaxRoom)
	subscribeAll(t, h, 0, "a", "b", "c")
	first := h.Filters(0)
	second := h.Filters(0)
	for i := range first {
		first[i] = "x"
	}
	spare := first[:cap(first)]
	for i := range spare {
		spare[i] = "y"
	}
	if !slices.Equal(second, []string{"a", "b", "c"}) {
		t.Errorf("P2: writing into one list made another %q", second)
	}
	wantFilters(t, h, 0, "a", "b", "c")
	subscribeAll(t, h, 0, "aa")
	want(t, "P4: Unsubscribe", h.Unsubscribe(0, "a"), api.OK)
	if !slices.Equal(second, []string{"a", "b", "c"}) {
		t.Errorf("P2: later calls made a list %q", second)
	}
	wantFilters(t, h, 0, "aa", "b", "c")
}

func TestBrokersAreApart(t *testing.T) {
	one := begin(t, 1)
	other := begin(t, 2)
	subscribeAll(t, one, 0, "a")
	wantFilters(t, other, 0)
	want(t, "P4: Unsubscribe at the other", other.Unsubscribe(0, "a"), api.ErrNone)
	subscribeAll(t, other, 0, "b", "c")
	wantFilters(t, one, 0, "a")
	want(t, "P4: the one is full", one.Subscribe(0, "b"), api.ErrFull)
	want(t, "P4: the other is full", other.Subscribe(0, "a"), api.ErrFull)
}
