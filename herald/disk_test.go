package herald

import (
	"fmt"
	"slices"
	"strings"
	"testing"
	"unsafe"

	"herald/api"
	"herald/records"
)

// shown is all that a broker shows, as a text.
func shown(h *Herald) string {
	s := fmt.Sprintln("time", h.Time(), "records", h.Records(), "waiting", h.Waiting())
	for client := range api.MaxClients {
		s += fmt.Sprintln(client, h.Filters(client), h.Queue(client), h.Lost(client))
	}
	return s + fmt.Sprintf("disk %x", h.Disk())
}

func wantSame(t *testing.T, what string, got, want *Herald) {
	t.Helper()
	if g, w := shown(got), shown(want); g != w {
		t.Fatalf("%s: shown is\n%s\nwant\n%s", what, g, w)
	}
}

func back(t *testing.T, disk string, room int) *Herald {
	t.Helper()
	h, e := New(disk, room)
	if h == nil || e != api.OK {
		t.Fatalf("P12: New(%x, %d) = %v, %d, want a broker and OK", disk, room, h, e)
	}
	return h
}

// turned is a text with one byte turned to another value; by is 1 to 255.
func turned(text string, at int, by int) string {
	b := []byte(text)
	b[at] += byte(by)
	return string(b)
}

// act is an operation that is done.
type act struct {
	name string
	do   func(h *Herald) api.Errno
}

func subscribing(client int, filter string) act {
	return act{fmt.Sprintf("Subscribe(%d, %q)", client, filter), func(h *Herald) api.Errno { return h.Subscribe(client, filter) }}
}

func unsubscribing(client int, filter string) act {
	return act{fmt.Sprintf("Unsubscribe(%d, %q)", client, filter), func(h *Herald) api.Errno { return h.Unsubscribe(client, filter) }}
}

func publishing(topic string, value, delay, life int) act {
	return act{fmt.Sprintf("Publish(%q, %d, %d, %d)", topic, value, delay, life), func(h *Herald) api.Errno {
		_, e := h.Publish(topic, value, delay, life)
		return e
	}}
}

func cancelling(number int) act {
	return act{fmt.Sprintf("Cancel(%d)", number), func(h *Herald) api.Errno { return h.Cancel(number) }}
}

func moving(number, delay int) act {
	return act{fmt.Sprintf("Move(%d, %d)", number, delay), func(h *Herald) api.Errno { return h.Move(number, delay) }}
}

func ticking(to int) act {
	return act{fmt.Sprintf("Tick(%d)", to), func(h *Herald) api.Errno { return h.Tick(to) }}
}

func acking(client, number int) act {
	return act{fmt.Sprintf("Ack(%d, %d)", client, number), func(h *Herald) api.Errno { return h.Ack(client, number) }}
}

func doAll(t *testing.T, h *Herald, acts ...act) {
	t.Helper()
	for _, a := range acts {
		if e := a.do(h); e != api.OK {
			t.Fatalf("%s = %d, want OK", a.name, e)
		}
	}
}

// someLife has every operation, and messages that are sent at once and later, that are over and that are lost.
func someLife() []act {
	life := []act{
		subscribing(0, "#"), subscribing(7, "a/+"), subscribing(7, "+/b/#"), subscribing(3, "abc/def/ghi/jkl"),
		publishing("a", 5, 0, 0), publishing("a/b", api.MaxValue, 0, 7), publishing("b", 6, 10, 0),
		publishing("abc/def/ghi/jkl", 7, 10, 4), publishing("d", 8, 5, api.MaxTime), publishing("e", 0, api.MaxTime, 1),
		moving(3, 2), ticking(3), acking(0, 0), cancelling(5), publishing("a/c", 255, 3, 2), ticking(9),
		unsubscribing(7, "a/+"), publishing("a/d", 256, 0, 0), moving(2, 1), ticking(10), acking(7, 6),
	}
	for i := range 9 { // client 0 has four: not all find room
		life = append(life, publishing("z", i, 0, i%3*5))
	}
	return append(life, publishing("y", 1, 20, 0), publishing("y", 2, 20, 3), moving(17, 20), acking(0, 9),
		ticking(15), publishing("x/b", 3, 0, 0), ticking(29), ticking(30), unsubscribing(0, "#"),
		publishing("w", 4, 40, 0), publishing("v", 9, 100, 5), cancelling(20))
}

// past is a life, and what each of its operations left behind it.
type past struct {
	life  []act
	disk  string
	ends  []int    // of the disk, behind so many operations
	shows []string // likewise
}

func pastOf(t *testing.T, life []act) past {
	t.Helper()
	h := begin(t, api.MaxRoom)
	p := past{life: life, ends: []int{0}, shows: []string{shown(h)}}
	for _, a := range life {
		doAll(t, h, a)
		p.ends = append(p.ends, len(h.Disk()))
		p.shows = append(p.shows, shown(h))
	}
	p.disk = h.Disk()
	return p
}

// whole is how many records stand whole ahead of this byte.
func (p past) whole(at int) int {
	n := 0
	for n < len(p.life) && p.ends[n+1] <= at {
		n++
	}
	return n
}

// wantBack: a disk of which the byte at this place is not there, or another.
func (p past) wantBack(t *testing.T, disk string, at int) *Herald {
	t.Helper()
	h := back(t, disk, api.MaxRoom)
	n := p.whole(at)
	if g := shown(h); g != p.shows[n] {
		t.Fatalf("P12, P13: a disk that is right up to byte %d shows\n%s\nwant, behind %d records,\n%s", at, g, n, p.shows[n])
	}
	return h
}

func TestANewDiskIsEmpty(t *testing.T) {
	for _, room := range []int{0, 1, api.MaxRoom} {
		h := begin(t, room)
		if h.Disk() != "" || h.Records() != 0 {
			t.Errorf("P11: New(\"\", %d) has the disk %x and %d records", room, h.Disk(), h.Records())
		}
	}
}

func TestEachOperationIsWrittenAndReadAgain(t *testing.T) {
	h := begin(t, api.MaxRoom)
	for i, a := range someLife() {
		was := h.Disk()
		doAll(t, h, a)
		is := h.Disk()
		if !strings.HasPrefix(is, was) || len(is) <= len(was) {
			t.Fatalf("P11: behind %s the disk is %x, ahead of it %x", a.name, is, was)
		}
		if h.Records() != i+1 {
			t.Fatalf("P11: behind %s Records() = %d, want %d", a.name, h.Records(), i+1)
		}
		wantSame(t, "P12: behind "+a.name, back(t, is, api.MaxRoom), h)
	}
}

func TestWhatIsNotDoneIsNotWritten(t *testing.T) {
	h := begin(t, api.MaxRoom)
	doAll(t, h, someLife()[:16]...)
	was := shown(h)
	doAll(t, h, ticking(0), ticking(8), ticking(9))
	for _, a := range []act{
		ticking(-1), ticking(api.MaxTime + 1), ticking(least), ticking(greatest),
		subscribing(0, "#"), subscribing(-1, "a"), subscribing(0, "a/"), subscribing(8, "a"),
		unsubscribing(0, "a"), unsubscribing(0, ""), unsubscribing(greatest, "a"),
		publishing("", 0, 0, 0), publishing("a", -1, 0, 0), publishing("a", 0, least, 0), publishing("a", 0, 0, greatest),
		cancelling(0), cancelling(-1), cancelling(greatest), moving(0, 1), moving(2, 0), moving(2, api.MaxTime+1),
		acking(0, 0), acking(7, least), acking(8, 1),
	} {
		if e := a.do(h); e == api.OK {
			t.Errorf("P1: %s = OK, want an error", a.name)
		}
	}
	if is := shown(h); is != was {
		t.Errorf("P1, P11: behind what is not done shown is\n%s\nwant\n%s", is, was)
	}
}

func TestWhatIsWrittenStays(t *testing.T) {
	h := begin(t, api.MaxRoom)
	var disks, copies []string
	for _, a := range someLife() {
		disks = append(disks, h.Disk())
		copies = append(copies, strings.Clone(h.Disk()))
		doAll(t, h, a)
	}
	if !slices.Equal(disks, copies) {
		t.Errorf("P2: later operations have changed a disk that came out")
	}
}

// Of each kind there is one with the number at each end, and at each byte's end.
func TestNumbersComeBack(t *testing.T) {
	numbers := []int{0, 1, 2, 100, api.MaxTime - 1, api.MaxTime}
	for n := 128; n < api.MaxTime; n *= 2 {
		numbers = append(numbers, n-1, n, n+1)
	}
	for _, n := range numbers {
		life := []act{subscribing(0, "#"), publishing("a", 1, 2, 0)}
		if n <= api.MaxValue {
			life = append(life, publishing("a", n, 0, 0), publishing("a", n, 5, 0))
		}
		life = append(life, publishing("b", 0, n, 0), publishing("c", 0, 0, n), publishing("c", 0, 1, n), publishing("d", 0, n, n))
		if n > 0 {
			life = append(life, moving(0, n), ticking(n))
		}
		if n < api.MaxTime {
			life = append(life, ticking(n+1), publishing("e", 0, n, n))
		}
		h := begin(t, api.MaxRoom)
		doAll(t, h, life...)
		wantSame(t, fmt.Sprintf("P12: with the number %d", n), back(t, h.Disk(), api.MaxRoom), h)
	}
}

// A Number may be as great as the last of all records but one.
func TestGreatNumbersOfMessagesComeBack(t *testing.T) {
	for _, n := range []int{0, 1, 127, 128, 254, 255, 256, 257, 300, 495} {
		h := begin(t, api.MaxRoom)
		for i := range n {
			doAll(t, h, publishing("b", i, 0, 0))
		}
		doAll(t, h, subscribing(7, "a"), publishing("b", 1, 5, 0), publishing("a", 2, 0, 0))
		wantSame(t, "P12: Publish", back(t, h.Disk(), api.MaxRoom), h)
		for _, a := range []act{moving(n, 9), cancelling(n), acking(7, n+1)} {
			x := back(t, h.Disk(), api.MaxRoom)
			doAll(t, x, a)
			wantSame(t, "P12: "+a.name, back(t, x.Disk(), api.MaxRoom), x)
			x = back(t, x.Disk(), api.MaxRoom)
			publish(t, x, n+2, "a", 1, 0, 0)
		}
	}
}

func TestClientsComeBack(t *testing.T) {
	for client := range api.MaxClients {
		h := begin(t, api.MaxRoom)
		doAll(t, h, subscribing(client, "a"), subscribing(client, "b"), publishing("a", 1, 0, 0), publishing("b", 2, 0, 0))
		wantSame(t, "P12: Subscribe", back(t, h.Disk(), api.MaxRoom), h)
		doAll(t, h, acking(client, 0), unsubscribing(client, "a"))
		h = back(t, h.Disk(), api.MaxRoom)
		wantFilters(t, h, client, "b")
		wantNumbers(t, h, client, 1)
	}
}

func TestTextsOfEveryLengthComeBack(t *testing.T) {
	topics := []string{
		"z", "ab", "abc", "a/bc", "ab/cd", "abc/de", "abc/def", "a/bc/def", "ab/cd/efg", "abc/de/fgh", "abc/def/ghi",
		"a/bc/def/ghi", "ab/cd/efg/hij", "abc/def/gh/ijk", "abc/def/ghi/jkl",
	}
	filters := []string{
		"#", "xy", "+/#", "ab/+", "+/+/#", "+/ab/+", "+/+/+/#", "ab/+/+/+", "abc/+/+/#", "abc/de/+/+", "abc/def/g/#",
		"abc/def/gh/+", "abc/+/ghi/jkl", "abc/de/ghi/jkl", "abc/def/ghi/xyz",
	}
	for i, topic := range topics {
		if len(topic) != i+1 || len(filters[i]) != i+1 {
			t.Fatalf("%q and %q: not both have the length %d", topic, filters[i], i+1)
		}
		for _, filter := range append(filters, topics...) {
			h := begin(t, api.MaxRoom)
			doAll(t, h, subscribing(1, filter), subscribing(2, topic), publishing(topic, 1, 0, 0), publishing(topic, 1, 1, 0))
			wantSame(t, "P12: "+filter+" and "+topic, back(t, h.Disk(), api.MaxRoom), h)
			doAll(t, h, unsubscribing(1, filter), ticking(2))
			wantSame(t, "P12: without "+filter, back(t, h.Disk(), api.MaxRoom), h)
		}
	}
}

// The last of the document's examples.
func TestTwoOperationsWithoutTheLastByte(t *testing.T) {
	h := begin(t, api.MaxRoom)
	doAll(t, h, subscribing(0, "a"))
	was := shown(h)
	doAll(t, h, ticking(5))
	d := h.Disk()
	if is := shown(back(t, d[:len(d)-1], api.MaxRoom)); is != was {
		t.Errorf("P12: without its last byte the disk shows\n%s\nwant\n%s", is, was)
	}
}

// What comes of later operations is seen by doing the rest of the life.
func TestCutAtEveryByte(t *testing.T) {
	p := pastOf(t, someLife())
	for at := 0; at <= len(p.disk); at++ {
		h := p.wantBack(t, p.disk[:at], at)
		for n := p.whole(at); n < len(p.life); n++ {
			doAll(t, h, p.life[n])
			if g := shown(h); g != p.shows[n+1] {
				t.Fatalf("P12: cut at %d, and then done up to %s, shows\n%s\nwant\n%s", at, p.life[n].name, g, p.shows[n+1])
			}
		}
	}
}

func TestEachByteTurned(t *testing.T) {
	p := pastOf(t, someLife())
	last := len(p.life) - 1
	for at := range len(p.disk) {
		n := p.whole(at)
		step := 51
		if n == 0 || n == last/2 || n == last {
			step = 1
		}
		for by := 1; by < 256; by += step {
			p.wantBack(t, turned(p.disk, at, by), at)
		}
	}
}

// Every operation's record is once the first or the last of a disk.
func TestEachByteOfEachKindOfRecordTurned(t *testing.T) {
	begins := []act{subscribing(0, "#"), publishing("a", 1, 0, 0), publishing("b", 2, 3, 0)}
	for _, a := range []act{
		subscribing(7, "abc/def/ghi/jkl"), subscribing(1, "+"), unsubscribing(0, "#"), publishing("a/b", 77, 0, 0),
		publishing("abc/def/ghi/jkl", api.MaxValue, api.MaxTime, api.MaxTime), cancelling(1), moving(1, 1),
		moving(1, api.MaxTime), ticking(1), ticking(3), ticking(api.MaxTime), acking(0, 0),
	} {
		p := pastOf(t, append(slices.Clone(begins), a))
		for at := p.ends[len(begins)]; at < len(p.disk); at++ {
			for by := 1; by < 256; by++ {
				p.wantBack(t, turned(p.disk, at, by), at)
			}
		}
	}
}

// A byte may be turned on a disk whose tail is lost, too: also in the record that is not whole.
func TestCutAndTurned(t *testing.T) {
	p := pastOf(t, someLife()[:12])
	for cut := 1; cut <= len(p.disk); cut++ {
		for at := max(0, cut-60); at < cut; at++ {
			for _, by := range []int{1, 1 + (cut*7+at*31)%255} {
				p.wantBack(t, turned(p.disk[:cut], at, by), at)
			}
		}
	}
}

func TestCutAndTurnedAgain(t *testing.T) {
	life := someLife()
	d := &dice{state: 7}
	h := begin(t, api.MaxRoom)
	for round := range 60 {
		// The last operation of each round is always lost again, so what is left is how the life begins.
		done := slices.Clone(life[:h.Records()])
		for len(done) < len(life) && d.below(12) > 0 {
			done = append(done, life[len(done)])
		}
		done = append(done, publishing("q", round, 1+d.below(30), 0))
		doAll(t, h, done[h.Records():]...)
		p := pastOf(t, done)
		if g := shown(h); g != p.shows[len(done)] {
			t.Fatalf("P12: behind %d returns shown is\n%s\nwant\n%s", round, g, p.shows[len(done)])
		}
		at := len(p.disk) - 1 - d.below(len(p.disk)/3)
		if round%2 == 0 {
			h = p.wantBack(t, h.Disk()[:at], at)
		} else {
			h = p.wantBack(t, turned(h.Disk(), at, 1+d.below(255)), at)
		}
		wantSame(t, "P12: back from what came back", back(t, h.Disk(), api.MaxRoom), h)
	}
}

func TestOtherOperationsBehindWhatCameBack(t *testing.T) {
	p := pastOf(t, someLife())
	other := []act{
		subscribing(5, "+/+"), publishing("b/a", 1, 0, 3), publishing("b/a", 2, 4, 3), ticking(api.MaxTime),
	}
	for at := 0; at <= len(p.disk); at += 41 {
		n := p.whole(at)
		x := back(t, p.disk[:at], api.MaxRoom)
		doAll(t, x, other...)
		both := pastOf(t, append(slices.Clone(p.life[:n]), other...))
		if g := shown(x); g != both.shows[n+4] {
			t.Fatalf("P12: cut at %d and gone another way shows\n%s\nwant\n%s", at, g, both.shows[n+4])
		}
		for k := both.ends[n]; k < len(both.disk); k++ {
			both.wantBack(t, x.Disk()[:k], k)
			both.wantBack(t, turned(x.Disk(), k, 1+(k+at)%255), k)
		}
	}
}

func TestRoomOfADisk(t *testing.T) {
	disk := pastOf(t, someLife()).disk
	for _, d := range []string{"", disk, disk[:len(disk)-1], turned(disk, 9, 9), "x"} {
		for _, room := range []int{least, -501, -1, api.MaxRoom + 1, 1 << 32, greatest} {
			if h, e := New(d, room); h != nil || e != api.ErrRoom {
				t.Errorf("P12: New(%.20x, %d) = %v, %d, want nil, ErrRoom", d, room, h, e)
			}
		}
		want := shown(back(t, d, api.MaxRoom))
		for _, room := range []int{0, 1, 5, 39, 40, 41, 499} {
			if got := shown(back(t, d, room)); got != want {
				t.Errorf("P12: New(%.20x, %d) shows\n%s\nwant\n%s", d, room, got, want)
			}
		}
	}
}

// wantFull: nothing that would write a record is done.
func wantFull(t *testing.T, h *Herald) {
	t.Helper()
	was := shown(h)
	more := []act{
		subscribing(6, "a"), unsubscribing(0, "#"), publishing("a", 1, 0, 0), publishing("a", 1, 1, 0),
		cancelling(1), moving(1, 1), ticking(h.Time() + 1), acking(0, 0),
	}
	for _, a := range more {
		want(t, a.name+" without room", a.do(h), api.ErrFull)
	}
	publishWrong(t, h, api.ErrFull, "a", 1, 0, 0)
	doAll(t, h, ticking(0), ticking(h.Time()))
	want(t, "P6: ahead of ErrFull", h.Cancel(0), api.ErrNone)
	want(t, "P7: ahead of ErrFull", h.Tick(-1), api.ErrArg)
	if is := shown(h); is != was {
		t.Errorf("P1: without room shown became\n%s\nwant\n%s", is, was)
	}
}

func TestLessRoomThanRecords(t *testing.T) {
	life := []act{
		subscribing(0, "#"), publishing("a", 1, 0, 0), publishing("b", 2, 9, 0), ticking(2), subscribing(1, "b"),
	}
	h := begin(t, len(life))
	doAll(t, h, life...)
	wantFull(t, h)
	for room := 0; room <= len(life); room++ {
		x := back(t, h.Disk(), room)
		wantSame(t, "P12: with less room", x, h)
		wantFull(t, x)
		y := back(t, x.Disk(), len(life)+2)
		wantSame(t, "P12: with more room again", y, h)
		doAll(t, y, ticking(2), ticking(3), ticking(3), acking(0, 0))
		wantNumbers(t, y, 0)
		want(t, "P7: room used up", y.Tick(4), api.ErrFull)
		wantTime(t, y, 3)
		if y.Records() != len(life)+2 {
			t.Errorf("P11: Records() = %d, want %d", y.Records(), len(life)+2)
		}
	}
}

// The sixth of the document's examples, and then the disk.
func TestRoomForTwo(t *testing.T) {
	h := begin(t, 2)
	doAll(t, h, subscribing(0, "a"), ticking(5), ticking(5))
	want(t, "P7: no room", h.Tick(6), api.ErrFull)
	wantTime(t, h, 5)
	h = back(t, h.Disk(), 3)
	doAll(t, h, ticking(5), ticking(6))
	want(t, "P7: no room", h.Tick(7), api.ErrFull)
}

func fullDisk(t *testing.T) *Herald {
	t.Helper()
	h := begin(t, api.MaxRoom)
	doAll(t, h, subscribing(0, "#"), publishing("a", 1, 0, 0), publishing("b", 2, api.MaxTime, 0))
	for h.Records() < api.MaxRoom {
		doAll(t, h, ticking(h.Time()+1))
	}
	return h
}

func TestAllTheRoomThereMayBe(t *testing.T) {
	h := fullDisk(t)
	d := h.Disk()
	for _, room := range []int{0, 499, api.MaxRoom} {
		x := back(t, d, room)
		wantSame(t, "P12: a full disk", x, h)
		wantFull(t, x)
	}
	x := back(t, d[:len(d)-1], api.MaxRoom)
	if x.Records() != api.MaxRoom-1 {
		t.Fatalf("P12: Records() = %d, want %d", x.Records(), api.MaxRoom-1)
	}
	doAll(t, x, ticking(x.Time()+9))
	wantFull(t, x)
}

// wantBroker: whatever the text, New gives a broker of which all promises hold; here always one whose disk
// is how the text begins.
func wantBroker(t *testing.T, text string) *Herald {
	t.Helper()
	h := back(t, text, api.MaxRoom)
	d := h.Disk()
	if !strings.HasPrefix(text, d) {
		t.Fatalf("P13: New(%.100x) has the disk %.100x", text, d)
	}
	if h.Records() > api.MaxRoom || (h.Records() == 0) != (d == "") {
		t.Fatalf("P13: New(%.100x) has %d records", text, h.Records())
	}
	wantSame(t, "P13: back once more", back(t, d, api.MaxRoom), h)
	x := back(t, text, api.MaxRoom)
	if x.Records() < api.MaxRoom {
		n, e := x.Publish("a", 1, 0, 0)
		want(t, "P13: Publish at a broker out of another text", e, api.OK)
		if m := x.Disk(); !strings.HasPrefix(m, d) || len(m) <= len(d) || n > h.Records() {
			t.Fatalf("P13: Publish is Number %d and makes the disk %x out of %x", n, m, d)
		}
		m := x.Disk()
		wantSame(t, "P13: back with one more", back(t, m, api.MaxRoom), x)
		wantSame(t, "P13: cut", back(t, m[:len(m)-1], api.MaxRoom), h)
		wantSame(t, "P13: turned", back(t, turned(m, len(d), 1), api.MaxRoom), h)
	}
	return h
}

func TestTextsThatAreNoDisk(t *testing.T) {
	for c := range 256 {
		for _, n := range []int{1, 2, 3, 41, 42, 43, 84, 1000} {
			h := wantBroker(t, strings.Repeat(string([]byte{byte(c)}), n))
			if h.Records() != 0 {
				t.Errorf("%d bytes %d are %d records", n, c, h.Records())
			}
		}
	}
	for _, text := range []string{
		strings.Repeat("\x00", 1<<22), strings.Repeat("\xff", 1<<22), strings.Repeat("a/b", 1<<20), "#", "a/b/c", "日本語",
		strings.Join(neither, "\n"),
	} {
		wantBroker(t, text)
	}
	d := &dice{state: 3}
	for range 500 {
		b := make([]byte, d.below(400))
		for i := range b {
			b[i] = byte(d.below(pick(d, 256, 8, 2)))
		}
		wantBroker(t, string(b))
	}
}

func TestDisksInAnotherOrder(t *testing.T) {
	p := pastOf(t, someLife())
	q := pastOf(t, []act{subscribing(2, "a"), publishing("a", 1, 0, 0), acking(2, 0), ticking(4)})
	for _, text := range []string{p.disk + p.disk, q.disk + q.disk, q.disk + p.disk, p.disk + q.disk, p.disk + p.disk[:1]} {
		wantBroker(t, text)
	}
	for at := range len(p.disk) {
		wantBroker(t, p.disk[at:])
	}
	var parts []string
	for n := range p.life {
		parts = append(parts, p.disk[p.ends[n]:p.ends[n+1]])
	}
	for i := range parts {
		for j := range i {
			other := slices.Clone(parts)
			other[i], other[j] = parts[j], parts[i]
			wantBroker(t, strings.Join(other, ""))
			wantBroker(t, strings.Join(slices.Delete(other, j, i), ""))
		}
		wantBroker(t, strings.Repeat(parts[i], 3))
		slices.Reverse(parts)
		wantBroker(t, strings.Join(parts, ""))
		slices.Reverse(parts)
	}
}

// The records of one disk behind those of another are done, as far as they may be.
func TestTwoDisksBehindOneAnother(t *testing.T) {
	one := pastOf(t, []act{subscribing(0, "#"), ticking(5)})
	other := pastOf(t, []act{subscribing(1, "a"), ticking(5), ticking(6)})
	both := pastOf(t, []act{subscribing(0, "#"), ticking(5), subscribing(1, "a")})
	// The second Tick(5) would change nothing: no broker writes it.
	if got := shown(wantBroker(t, one.disk+other.disk)); got != both.shows[3] {
		t.Errorf("P13: two disks behind one another show\n%s\nwant\n%s", got, both.shows[3])
	}
}

func TestMoreRecordsThanThereMayBe(t *testing.T) {
	h := fullDisk(t)
	more := pastOf(t, []act{subscribing(7, "a"), ticking(api.MaxTime)})
	wantSame(t, "P13: more records than there may be", wantBroker(t, h.Disk()+more.disk), h)
	text := strings.Repeat(h.Disk(), 50)
	wantSame(t, "P13: far more records than there may be", wantBroker(t, text), h)
	var rising strings.Builder
	for to := 1; to < 5000; to++ {
		rising.WriteString(records.Write(records.Record{Call: records.Tick, To: to}))
	}
	if got := wantBroker(t, rising.String()).Time(); got != api.MaxRoom {
		t.Errorf("P13: behind 5000 records the time is %d, want %d", got, api.MaxRoom)
	}
}

// Each is a record to the byte, but of an operation that could not have been done.
func TestRecordsThatNoBrokerWrites(t *testing.T) {
	life := []act{publishing("a", 1, 0, 0)}
	for i := range api.MaxFilters {
		life = append(life, subscribing(0, strings.Repeat("+/", i%4)+[]string{"a", "b"}[i/4]))
	}
	for range api.MaxWaiting {
		life = append(life, publishing("b", 1, 5, 0))
	}
	life = append(life, ticking(3))
	p := pastOf(t, life)
	for _, r := range []records.Record{
		{},
		{Call: 8, Client: 1, Text: "a", To: 9},
		{Call: 255, To: 9},
		{Call: records.Subscribe, Client: 8, Text: "a"},
		{Call: records.Subscribe, Client: 255, Text: "a"},
		{Call: records.Subscribe, Client: 1},
		{Call: records.Subscribe, Client: 1, Text: "a/"},
		{Call: records.Subscribe, Client: 1, Text: "abcabcabcabcabc"},
		{Call: records.Subscribe, Client: 0, Text: "a"},
		{Call: records.Subscribe, Client: 0, Text: "c"},
		{Call: records.Subscribe, Client: 1, Text: "a", Number: 1},
		{Call: records.Unsubscribe, Client: 0, Text: "c"},
		{Call: records.Unsubscribe, Client: 0, Text: "a", To: 5},
		{Call: records.Publish, Text: "+", Value: 1},
		{Call: records.Publish, Text: "a", Value: api.MaxValue + 1},
		{Call: records.Publish, Text: "a", Value: 1<<32 - 1},
		{Call: records.Publish, Text: "a", Life: api.MaxTime + 1},
		{Call: records.Publish, Text: "a", Delay: 1},
		{Call: records.Publish, Text: "a", Client: 1},
		{Call: records.Cancel, Number: 0},
		{Call: records.Cancel, Number: 1, Delay: 1},
		{Call: records.Cancel, Number: 65},
		{Call: records.Move, Number: 1},
		{Call: records.Move, Number: 0, Delay: 1},
		{Call: records.Move, Number: 1, Delay: api.MaxTime + 1},
		{Call: records.Move, Number: 1, Delay: 1, Life: 1},
		{Call: records.Tick},
		{Call: records.Tick, To: 2},
		{Call: records.Tick, To: 3},
		{Call: records.Tick, To: api.MaxTime + 1},
		{Call: records.Tick, To: 1<<48 - 1},
		{Call: records.Tick, To: 9, Text: "a"},
		{Call: records.Ack, Client: 0, Number: 0},
		{Call: records.Ack, Client: 8, Number: 0},
		{Call: records.Ack, Client: 0, Number: 1, Value: 1},
	} {
		good := records.Write(records.Record{Call: records.Tick, To: 4})
		text := p.disk + records.Write(r) + good
		if got := shown(back(t, text, api.MaxRoom)); got != p.shows[len(life)] {
			t.Errorf("P13: behind the record %v shown is\n%s\nwant\n%s", r, got, p.shows[len(life)])
		}
	}
	wantTime(t, back(t, p.disk+records.Write(records.Record{Call: records.Tick, To: 4}), api.MaxRoom), 4)
}

func TestBrokersOfOneDiskAreApart(t *testing.T) {
	h := begin(t, api.MaxRoom)
	doAll(t, h, someLife()...)
	was := shown(h)
	x := back(t, h.Disk(), api.MaxRoom)
	y := back(t, h.Disk(), api.MaxRoom)
	doAll(t, x, subscribing(5, "a"), publishing("a", 1, 0, 0), publishing("a", 1, 1, 0), ticking(api.MaxTime))
	if shown(h) != was || shown(y) != was {
		t.Errorf("P2: what one broker does changes another of the same disk")
	}
	doAll(t, y, publishing("b", 1, 0, 0))
	if shown(h) != was || strings.HasPrefix(x.Disk(), y.Disk()) {
		t.Errorf("P2: what one broker writes changes another of the same disk")
	}
}

// A disk that is handed in is not kept: neither it nor a part of it.
func TestTheDiskIsNotKept(t *testing.T) {
	b := []byte(pastOf(t, someLife()[:9]).disk)
	disk := unsafe.String(&b[0], len(b))
	h := back(t, disk, api.MaxRoom)
	was := shown(h)
	for i := range b {
		b[i] = 'x'
	}
	if is := shown(h); is != was {
		t.Errorf("the disk that was handed in is kept: shown is\n%s\nwas\n%s", is, was)
	}
}
