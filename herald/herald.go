// Package herald: messages that are published later, and a disk that may lose its tail: see DOC.md.
package herald

import (
	"herald/api"
	"herald/records"
	"herald/topics"
)

// Herald is a broker.
type Herald struct {
	room      int // records that there may be
	disk      []byte
	time      int
	published int // messages, whatever has become of them
	clients   [api.MaxClients]clientState
	waiting   []api.Waiting
}

type clientState struct {
	filters []string
	queue   []message
	lost    int
}

// Fits tells whether a filter fits a topic (P3).
func Fits(filter string, topic string) (bool, api.Errno) {
	if !topics.IsFilter(filter) {
		return false, api.ErrFilter
	}
	if !topics.IsTopic(topic) {
		return false, api.ErrTopic
	}
	return topics.Fits(filter, topic), api.OK
}

// New makes a broker out of what a disk holds (P12, P13).
func New(disk string, room int) (*Herald, api.Errno) {
	if room < 0 || room > api.MaxRoom {
		return nil, api.ErrRoom
	}
	// What was done once is done again, though there be no room for it now.
	h := &Herald{room: api.MaxRoom}
	h.redoAll(disk)
	h.room = room
	return h, api.OK
}

// Subscribe gives a client a filter (P4).
func (h *Herald) Subscribe(client int, filter string) api.Errno {
	if !isClient(client) {
		return api.ErrClient
	}
	if !topics.IsFilter(filter) {
		return api.ErrFilter
	}
	list := h.clients[client].filters
	if hasFilter(list, filter) {
		return api.ErrTwice
	}
	if len(list) >= api.MaxFilters {
		return api.ErrMany
	}
	if h.isFull() {
		return api.ErrFull
	}
	own := copyText(filter)
	h.clients[client].filters = withFilter(list, own)
	h.write(records.Record{Call: records.Subscribe, Client: client, Text: own})
	return api.OK
}

// Unsubscribe takes a filter from a client (P4).
func (h *Herald) Unsubscribe(client int, filter string) api.Errno {
	if !isClient(client) {
		return api.ErrClient
	}
	if !topics.IsFilter(filter) {
		return api.ErrFilter
	}
	list := h.clients[client].filters
	if !hasFilter(list, filter) {
		return api.ErrNone
	}
	if h.isFull() {
		return api.ErrFull
	}
	h.clients[client].filters = withoutFilter(list, filter)
	h.write(records.Record{Call: records.Unsubscribe, Client: client, Text: filter})
	return api.OK
}

// Publish sends a message, or lets it wait (P5).
func (h *Herald) Publish(topic string, value int, delay int, life int) (int, api.Errno) {
	if !topics.IsTopic(topic) {
		return 0, api.ErrTopic
	}
	if !isValue(value) || !isInstant(delay) || !isInstant(life) {
		return 0, api.ErrArg
	}
	if delay > 0 && len(h.waiting) >= api.MaxWaiting {
		return 0, api.ErrMany
	}
	if h.isFull() {
		return 0, api.ErrFull
	}
	number := h.published
	own := copyText(topic)
	h.published++
	h.write(records.Record{Call: records.Publish, Text: own, Value: value, Delay: delay, Life: life})
	if delay == 0 {
		h.send(message{number: number, topic: own, value: value, life: life, at: h.time})
	} else {
		deadline := deadlineOf(h.time, delay)
		later := api.Waiting{Number: number, Topic: own, Value: value, Deadline: deadline, Life: life}
		h.waiting = withWaiting(h.waiting, later)
	}
	return number, api.OK
}

// Cancel takes back a message that waits (P6).
func (h *Herald) Cancel(number int) api.Errno {
	_, waits := findWaiting(h.waiting, number)
	if !waits {
		return api.ErrNone
	}
	if h.isFull() {
		return api.ErrFull
	}
	h.waiting = withoutWaiting(h.waiting, number)
	h.write(records.Record{Call: records.Cancel, Number: number})
	return api.OK
}

// Move gives a message that waits another deadline (P6).
func (h *Herald) Move(number int, delay int) api.Errno {
	moved, waits := findWaiting(h.waiting, number)
	if !waits {
		return api.ErrNone
	}
	if delay == 0 || !isInstant(delay) {
		return api.ErrArg
	}
	if h.isFull() {
		return api.ErrFull
	}
	moved.Deadline = deadlineOf(h.time, delay)
	others := withoutWaiting(h.waiting, number)
	h.waiting = withWaiting(others, moved)
	h.write(records.Record{Call: records.Move, Number: number, Delay: delay})
	return api.OK
}

// Tick tells the broker what time it is (P7).
func (h *Herald) Tick(to int) api.Errno {
	if !isInstant(to) {
		return api.ErrArg
	}
	// Ahead of the test for room: what changes nothing writes no record.
	if to <= h.time {
		return api.OK
	}
	if h.isFull() {
		return api.ErrFull
	}
	h.time = to
	// What is over leaves first: it makes room for what is sent.
	h.dropOver()
	h.sendDue()
	h.write(records.Record{Call: records.Tick, To: to})
	return api.OK
}

// Ack takes a message from a client's queue (P8).
func (h *Herald) Ack(client int, number int) api.Errno {
	if !isClient(client) {
		return api.ErrClient
	}
	queue := h.clients[client].queue
	if !hasMessage(queue, number) {
		return api.ErrNone
	}
	if h.isFull() {
		return api.ErrFull
	}
	h.clients[client].queue = withoutMessage(queue, number)
	h.write(records.Record{Call: records.Ack, Client: client, Number: number})
	return api.OK
}

// Time tells the time (P9).
func (h *Herald) Time() int { return h.time }

// Filters lists a client's filters (P9).
func (h *Herald) Filters(client int) []string {
	if !isClient(client) {
		return nil
	}
	return copyFilters(h.clients[client].filters)
}

// Queue lists a client's messages (P9).
func (h *Herald) Queue(client int) []api.Message {
	if !isClient(client) {
		return nil
	}
	return shownQueue(h.clients[client].queue, h.time)
}

// Lost tells how many messages were lost for a client (P9).
func (h *Herald) Lost(client int) int {
	if !isClient(client) {
		return 0
	}
	return h.clients[client].lost
}

// Waiting lists what waits (P10).
func (h *Herald) Waiting() []api.Waiting { return copyWaiting(h.waiting) }

// Records tells how many records there are (P11).
func (h *Herald) Records() int { return len(h.disk) / records.Size }

// Disk is all that was written (P11).
func (h *Herald) Disk() string { return string(h.disk) }

func isClient(client int) bool {
	return client >= 0 && client < api.MaxClients
}

func isValue(value int) bool {
	return value >= 0 && value <= api.MaxValue
}

// isInstant tells it of a delay and a life, too: they have the same limits.
func isInstant(instant int) bool {
	return instant >= 0 && instant <= api.MaxTime
}

// isFull tells whether there is no room for one record more.
func (h *Herald) isFull() bool {
	return h.Records() >= h.room
}
