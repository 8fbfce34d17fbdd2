package herald

import "herald/records"

// The disk holds the operations that were done: who does them again, in their order, has all that came of them.

func (h *Herald) write(r records.Record) {
	text := records.Write(r)
	h.disk = append(h.disk, text...)
}

// redoAll does what stands on a disk, up to the first record that is not whole or that no broker would
// have written there.
func (h *Herald) redoAll(disk string) {
	for start := 0; len(disk)-start >= records.Size; start += records.Size {
		r, isWhole := records.Read(disk[start : start+records.Size])
		if !isWhole {
			return
		}
		h.redo(r)
		// An operation with an error has written nothing, nor has a Tick that changes nothing.
		if len(h.disk) == start {
			return
		}
	}
}

func (h *Herald) redo(r records.Record) {
	switch r.Call {
	case records.Subscribe:
		h.Subscribe(r.Client, r.Text)
	case records.Unsubscribe:
		h.Unsubscribe(r.Client, r.Text)
	case records.Publish:
		h.Publish(r.Text, r.Value, r.Delay, r.Life)
	case records.Cancel:
		h.Cancel(r.Number)
	case records.Move:
		h.Move(r.Number, r.Delay)
	case records.Tick:
		h.Tick(r.To)
	case records.Ack:
		h.Ack(r.Client, r.Number)
	}
}
