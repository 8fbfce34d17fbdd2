package herald

import (
	"herald/api"
	"herald/topics"
)

// message is one that was sent, as a queue keeps it.
type message struct {
	number int
	topic  string
	value  int
	life   int
	at     int // when it was sent
}

// send gives a message to each client that has a filter for it.
func (h *Herald) send(m message) {
	for i := 0; i < len(h.clients); i++ {
		if fitsOne(h.clients[i].filters, m.topic) {
			h.clients[i].receive(m)
		}
	}
}

// fitsOne tells whether a filter of the list, one or more, fits the topic.
func fitsOne(filters []string, topic string) bool {
	for i := 0; i < len(filters); i++ {
		if topics.Fits(filters[i], topic) {
			return true
		}
	}
	return false
}

func (c *clientState) receive(m message) {
	if len(c.queue) >= api.MaxQueue {
		c.lost++
		return
	}
	c.queue = append(c.queue, m)
}

// dropOver takes what is over out of every queue.
func (h *Herald) dropOver() {
	for i := 0; i < len(h.clients); i++ {
		h.clients[i].queue = withoutOver(h.clients[i].queue, h.time)
	}
}

// withoutOver is a fresh list of the messages that are not over.
func withoutOver(queue []message, time int) []message {
	var shorter []message
	for i := 0; i < len(queue); i++ {
		if !queue[i].isOver(time) {
			shorter = append(shorter, queue[i])
		}
	}
	return shorter
}

func (m message) isOver(time int) bool {
	return m.life > 0 && time-m.at >= m.life
}

// left is how long a message is good for still; 0 is for ever.
func (m message) left(time int) int {
	if m.life == 0 {
		return 0
	}
	return m.life - time + m.at
}

func hasMessage(queue []message, number int) bool {
	for i := 0; i < len(queue); i++ {
		if queue[i].number == number {
			return true
		}
	}
	return false
}

// withoutMessage is a fresh list of the messages but this one.
func withoutMessage(queue []message, number int) []message {
	var shorter []message
	for i := 0; i < len(queue); i++ {
		if queue[i].number != number {
			shorter = append(shorter, queue[i])
		}
	}
	return shorter
}

// shownQueue is a fresh list of the messages as they are shown.
func shownQueue(queue []message, time int) []api.Message {
	var list []api.Message
	for i := 0; i < len(queue); i++ {
		m := queue[i]
		left := m.left(time)
		list = append(list, api.Message{Number: m.number, Topic: m.topic, Value: m.value, At: m.at, Left: left})
	}
	return list
}
