package snap

import (
	"padlock/api"
	"padlock/octet"
	"padlock/reply"
)

// writer puts one thing behind the other. It is given what is right only: that
// has an encoding, so that no putting fails.
type writer struct{ b []byte }

func (w *writer) putNum(v int) {
	b, _ := octet.PutNum(v)
	w.b = append(w.b, b...)
}

func (w *writer) putByte(v int) {
	b, _ := octet.PutByte(v)
	w.b = append(w.b, b...)
}

func (w *writer) putText(s string) {
	b, _ := octet.PutText(s)
	w.b = append(w.b, b...)
}

func (w *writer) putState(s api.State) {
	w.putNum(s.Time)
	w.putNum(s.Num)
	w.putNum(s.Token)
	w.putByte(len(s.Sessions))
	for _, x := range s.Sessions {
		w.putSession(x)
	}
	w.putByte(len(s.Locks))
	for _, k := range s.Locks {
		w.putLock(k)
	}
	w.putByte(len(s.Memos))
	for _, m := range s.Memos {
		w.putMemo(m)
	}
}

func (w *writer) putSession(x api.Session) {
	w.putByte(x.Client)
	w.putNum(x.Num)
	w.putNum(x.Renewed)
}

func (w *writer) putLock(k api.Lock) {
	w.putText(k.Name)
	w.putByte(k.Holder)
	w.putNum(k.Token)
	w.putByte(len(k.Line))
	for _, client := range k.Line {
		w.putByte(client)
	}
}

func (w *writer) putMemo(m api.Memo) {
	b, _ := reply.PutAnswer(api.Answer(m))
	w.b = append(w.b, b...)
}
