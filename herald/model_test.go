package herald

import (
	"regexp"
	"slices"
	"strings"
	"testing"

	"herald/api"
)

// history is all that was done to a broker. What is shown is worked out anew from the whole of it each time,
// so that nothing here is kept in the way in which the broker keeps it.
type history struct {
	room int
	done []deed
}

type deed struct {
	call   string
	client int
	text   string
	number int // what was published ahead of it; or what was acked, cancelled or moved; or the time
	value  int
	delay  int
	life   int
}

func (l *history) time() int {
	now := 0
	for _, d := range l.done {
		if d.call == "Tick" {
			now = d.number
		}
	}
	return now
}

func (l *history) published() int {
	n := 0
	for _, d := range l.done {
		if d.call == "Publish" {
			n++
		}
	}
	return n
}

func (l *history) filters(client int) []string {
	var has []string
	for _, d := range l.done {
		if d.client != client {
			continue
		}
		if d.call == "Subscribe" {
			has = append(has, d.text)
		}
		if d.call == "Unsubscribe" {
			has = slices.DeleteFunc(has, func(f string) bool { return f == d.text })
		}
	}
	slices.Sort(has)
	return has
}

func fitsByPattern(filter, topic string) bool {
	p := strings.ReplaceAll(filter, "+", "[a-z]+")
	p = strings.ReplaceAll(p, "/#", "(/.*)?")
	p = strings.ReplaceAll(p, "#", ".*")
	return regexp.MustCompile("^" + p + "$").MatchString(topic)
}

// waiting is what waits, in order.
func (l *history) waiting() []api.Waiting {
	var list []api.Waiting
	now := 0
	for _, d := range l.done {
		deadline := min(now+d.delay, api.MaxTime)
		switch {
		case d.call == "Tick":
			now = d.number
			list = slices.DeleteFunc(list, func(w api.Waiting) bool { return w.Deadline <= now })
		case d.call == "Publish" && d.delay > 0:
			list = append(list, waits(d.number, d.text, d.value, deadline, d.life))
		case d.call == "Cancel":
			list = slices.DeleteFunc(list, func(w api.Waiting) bool { return w.Number == d.number })
		case d.call == "Move":
			i := slices.IndexFunc(list, func(w api.Waiting) bool { return w.Number == d.number })
			list[i].Deadline = deadline
		}
	}
	// The list rises by Numbers as it is: a sort that keeps the order of equals is all that is wanted.
	slices.SortStableFunc(list, func(v, w api.Waiting) int { return v.Deadline - w.Deadline })
	return list
}

func (l *history) doesWait(number int) bool {
	return slices.ContainsFunc(l.waiting(), func(w api.Waiting) bool { return w.Number == number })
}

// sent is what the deed at this place sent, in order.
func (l *history) sent(place int) []api.Waiting {
	d := l.done[place]
	switch {
	case d.call == "Publish" && d.delay == 0:
		return []api.Waiting{waits(d.number, d.text, d.value, 0, d.life)}
	case d.call == "Tick":
		ahead := history{done: l.done[:place]}
		return slices.DeleteFunc(ahead.waiting(), func(w api.Waiting) bool { return w.Deadline > d.number })
	}
	return nil
}

// queue is the client's queue and how many were lost for it.
func (l *history) queue(client int) ([]api.Message, int) {
	var list []api.Message
	ends := []int{} // when each of the list is over; -1: never
	lost, now := 0, 0
	for place, d := range l.done {
		gone := func(i int) bool { return false }
		switch {
		case d.call == "Tick":
			now = d.number
			gone = func(i int) bool { return ends[i] >= 0 && ends[i] <= now }
		case d.call == "Ack" && d.client == client:
			gone = func(i int) bool { return list[i].Number == d.number }
		}
		var stay []api.Message
		var stayEnds []int
		for i := range list {
			if !gone(i) {
				stay, stayEnds = append(stay, list[i]), append(stayEnds, ends[i])
			}
		}
		list, ends = stay, stayEnds
		past := history{done: l.done[:place]}
		for _, w := range l.sent(place) {
			fits := slices.ContainsFunc(past.filters(client), func(f string) bool { return fitsByPattern(f, w.Topic) })
			if fits && len(list) == api.MaxQueue {
				lost++
			} else if fits {
				end := now + w.Life
				if w.Life == 0 {
					end = -1
				}
				list = append(list, mail(w.Number, w.Topic, w.Value, now, 0))
				ends = append(ends, end)
			}
		}
	}
	for i := range list {
		if ends[i] >= 0 {
			list[i].Left = ends[i] - now
		}
	}
	return list, lost
}

// do notes a deed, if there is room for it and it has no error.
func (l *history) do(d deed, e api.Errno) api.Errno {
	if e == api.OK && len(l.done) >= l.room {
		e = api.ErrFull
	}
	if e == api.OK {
		l.done = append(l.done, d)
	}
	return e
}

// dice is a row of numbers that is the same at every run.
type dice struct{ state uint64 }

func (d *dice) below(n int) int {
	d.state = d.state*6364136223846793005 + 1442695040888963407
	return int(d.state>>33) % n
}

func pick[T any](d *dice, list ...T) T { return list[d.below(len(list))] }

// step does one operation to the broker and to the history, and holds the answers against each other.
func step(t *testing.T, d *dice, h *Herald, l *history) {
	client := pick(d, 0, 0, 1, 1, 2, 7, 8, -1)
	isOne := client >= 0 && client < 8
	switch d.below(11) {
	case 0:
		f := pick(d, "#", "a", "+", "a/+", "b/#", "c", "+/a", "a+", "")
		e := api.OK
		if !isOne {
			e = api.ErrClient
		} else if f == "a+" || f == "" {
			e = api.ErrFilter
		} else if slices.Contains(l.filters(client), f) {
			e = api.ErrTwice
		} else if len(l.filters(client)) == 6 {
			e = api.ErrMany
		}
		e = l.do(deed{call: "Subscribe", client: client, text: f}, e)
		want(t, "P4: Subscribe", h.Subscribe(client, f), e)
	case 1:
		f := pick(d, "#", "a", "+", "a/+", "b/#", "c", "+/a", "a+", "")
		e := api.OK
		if !isOne {
			e = api.ErrClient
		} else if f == "a+" || f == "" {
			e = api.ErrFilter
		} else if !slices.Contains(l.filters(client), f) {
			e = api.ErrNone
		}
		e = l.do(deed{call: "Unsubscribe", client: client, text: f}, e)
		want(t, "P4: Unsubscribe", h.Unsubscribe(client, f), e)
	case 2, 3, 4:
		stepPublish(t, d, h, l)
	case 5:
		number := l.published() - d.below(20)
		e := api.OK
		if !l.doesWait(number) {
			e = api.ErrNone
		}
		e = l.do(deed{call: "Cancel", client: -1, number: number}, e)
		want(t, "P6: Cancel", h.Cancel(number), e)
	case 6, 7:
		number := l.published() - d.below(20)
		delay := pick(d, 0, 1, 1, 2, 3, 5, 8, 20, 1<<40, 1<<40+1)
		e := api.OK
		if !l.doesWait(number) {
			e = api.ErrNone
		} else if delay < 1 || delay > 1<<40 {
			e = api.ErrArg
		}
		e = l.do(deed{call: "Move", client: -1, number: number, delay: delay}, e)
		want(t, "P6: Move", h.Move(number, delay), e)
	case 8:
		to := l.time() + pick(d, -1, 0, 1, 1, 2, 3, 5)
		e := api.OK
		if to < 0 || to > 1<<40 {
			e = api.ErrArg
		} else if to > l.time() {
			e = l.do(deed{call: "Tick", client: -1, number: to}, e)
		}
		want(t, "P7: Tick", h.Tick(to), e)
	default:
		number := l.published() - d.below(14)
		e := api.OK
		if !isOne {
			e = api.ErrClient
		} else {
			list, _ := l.queue(client)
			if !slices.ContainsFunc(list, func(m api.Message) bool { return m.Number == number }) {
				e = api.ErrNone
			}
		}
		e = l.do(deed{call: "Ack", client: client, number: number}, e)
		want(t, "P8: Ack", h.Ack(client, number), e)
	}
}

func stepPublish(t *testing.T, d *dice, h *Herald, l *history) {
	topic := pick(d, "a", "a", "a/b", "b", "b/a", "c", "a/b/c", "a/", "#")
	value := pick(d, 0, 1, 77, 1<<30, 1<<30, 1, 2, 3, 4, 5, -1, 1<<30+1)
	delay := pick(d, 0, 0, 0, 1, 2, 3, 3, 5, 8, 20, 1<<40, -1)
	life := pick(d, 0, 1, 2, 3, 5, 8, 1<<40, 0, 0, 4, -1)
	number := l.published()
	e := api.OK
	if topic == "a/" || topic == "#" {
		e = api.ErrTopic
	} else if value < 0 || value > 1<<30 || delay < 0 || life < 0 {
		e = api.ErrArg
	} else if delay > 0 && len(l.waiting()) == api.MaxWaiting {
		e = api.ErrMany
	}
	e = l.do(deed{call: "Publish", client: -1, text: topic, number: number, value: value, delay: delay, life: life}, e)
	if e != api.OK {
		publishWrong(t, h, e, topic, value, delay, life)
	} else {
		publish(t, h, number, topic, value, delay, life)
	}
}

func sameShown(t *testing.T, h *Herald, l *history) {
	wantTime(t, h, l.time())
	if h.Records() != len(l.done) {
		t.Errorf("P11: Records() = %d, want %d", h.Records(), len(l.done))
	}
	wantWaiting(t, h, l.waiting()...)
	for client := 0; client < 8; client++ {
		wantFilters(t, h, client, l.filters(client)...)
		list, lost := l.queue(client)
		wantQueue(t, h, client, list...)
		if h.Lost(client) != lost {
			t.Errorf("P9: Lost(%d) = %d, want %d", client, h.Lost(client), lost)
		}
	}
}

// comeBack loses the broker and some of the disk's end, or one byte near it; and now and then it has other room.
// The disk ends behind each deed of the history where ends says.
func comeBack(t *testing.T, d *dice, h *Herald, l *history, ends []int) *Herald {
	disk := h.Disk()
	at := max(0, len(disk)-pick(d, 0, 0, 1, 2, d.below(100), d.below(300)))
	if at < len(disk) && d.below(2) == 0 {
		disk = turned(disk, at, 1+d.below(255))
	} else {
		disk = disk[:at]
	}
	for len(l.done) > 0 && ends[len(l.done)-1] > at {
		l.done = l.done[:len(l.done)-1]
	}
	l.room = pick(d, 200, 200, 200, 200, 200, d.below(501), len(l.done), max(0, len(l.done)-3), len(l.done)+2)
	x := back(t, disk, l.room)
	end := 0
	if len(l.done) > 0 {
		end = ends[len(l.done)-1]
	}
	if x.Disk() != disk[:end] {
		t.Errorf("P12: behind %d records the disk has %d bytes, want %d", len(l.done), len(x.Disk()), end)
	}
	return x
}

// The operations are broken off many times, and go on with what comes back.
func TestManyReturns(t *testing.T) {
	for seed := uint64(1); seed <= 24; seed++ {
		d := &dice{state: seed * 77}
		l := &history{room: 200}
		h := begin(t, l.room)
		ends := make([]int, api.MaxRoom)
		for i := 0; i < 500 && !t.Failed(); i++ {
			was := h.Disk()
			n := len(l.done)
			step(t, d, h, l)
			is := h.Disk()
			if !strings.HasPrefix(is, was) || (len(l.done) > n) != (len(is) > len(was)) {
				t.Errorf("P11: the disk is %x, and was %x", is, was)
			}
			if len(l.done) > n {
				ends[n] = len(is)
			}
			if d.below(20) == 0 {
				h = comeBack(t, d, h, l, ends)
				sameShown(t, h, l)
			}
		}
		sameShown(t, h, l)
		if t.Failed() {
			t.Fatalf("seed %d: behind %v", seed, l.done)
		}
	}
}

func TestManyOperations(t *testing.T) {
	for seed := uint64(1); seed <= 12; seed++ {
		d := &dice{state: seed}
		l := &history{room: 20 + 10*int(seed)}
		h := begin(t, l.room)
		if seed%3 == 0 { // near the end of time
			to := api.MaxTime - 30
			want(t, "P7: Tick", h.Tick(to), l.do(deed{call: "Tick", client: -1, number: to}, api.OK))
		}
		for i := 0; i < 3*l.room && !t.Failed(); i++ {
			step(t, d, h, l)
			if i%7 == 0 || i > 3*l.room-3 {
				sameShown(t, h, l)
			}
		}
		if t.Failed() {
			t.Fatalf("seed %d: behind %v", seed, l.done)
		}
	}
}
