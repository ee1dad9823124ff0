package snap

import (
	"padlock/api"
	"padlock/auto"
	"padlock/octet"
	"padlock/reply"
)

// failure is what a reading that fails panics with. It is a type of this
// package's own, so that no other panic is taken for a reading's code.
type failure struct{ code api.Errno }

// codeOf tells the code of a panic that an exported function recovered.
func codeOf(cause any) api.Errno {
	if f, ok := cause.(failure); ok {
		return f.code
	}
	return api.ErrForm // R1: no call panics, not even by a fault of its own
}

// readState reads a right state.
func readState(b []byte, at int) (api.State, int) {
	r := reader{b, at}
	s := r.getState()
	if !auto.Right(s) {
		panic(failure{api.ErrForm})
	}
	return s, r.at
}

// readSnap reads a well-formed snapshot.
func readSnap(b []byte, at int) (api.Snap, int) {
	r := reader{b, at}
	var s api.Snap
	s.Done = r.getNum()
	s.Tip.View = r.getNum()
	s.Tip.Slot = r.getNum()
	s.State = r.getState()
	if !MaySnap(s) {
		panic(failure{api.ErrForm})
	}
	return s, r.at
}

// reader reads what a writer put, one thing behind the other from index at on.
type reader struct {
	b  []byte
	at int
}

// step goes on to the index behind what was read, or fails.
func (r *reader) step(next int, code api.Errno) {
	if code != api.OK {
		panic(failure{code})
	}
	r.at = next
}

func (r *reader) getNum() int {
	v, next, code := octet.Num(r.b, r.at)
	r.step(next, code)
	return v
}

func (r *reader) getByte() int {
	v, next, code := octet.Byte(r.b, r.at)
	r.step(next, code)
	return v
}

func (r *reader) getName() string {
	s, next, code := octet.Text(r.b, r.at, api.MaxName)
	r.step(next, code)
	return s
}

// getCount reads how many elements follow. Too many fail at once: these may be
// cut off.
func (r *reader) getCount(most int) int {
	n := r.getByte()
	if n > most {
		panic(failure{api.ErrForm})
	}
	return n
}

// getState reads a state, whether or not it is right.
func (r *reader) getState() (s api.State) {
	s.Time = r.getNum()
	s.Num = r.getNum()
	s.Token = r.getNum()
	for range r.getCount(api.MaxSessions) {
		s.Sessions = append(s.Sessions, r.getSession())
	}
	for range r.getCount(api.MaxLocks) {
		s.Locks = append(s.Locks, r.getLock())
	}
	for range r.getCount(api.MaxClients) {
		s.Memos = append(s.Memos, r.getMemo())
	}
	return s
}

func (r *reader) getSession() (x api.Session) {
	x.Client = r.getByte()
	x.Num = r.getNum()
	x.Renewed = r.getNum()
	return x
}

func (r *reader) getLock() (k api.Lock) {
	k.Name = r.getName()
	k.Holder = r.getByte()
	k.Token = r.getNum()
	for range r.getCount(api.MaxLine) {
		k.Line = append(k.Line, r.getByte())
	}
	return k
}

func (r *reader) getMemo() api.Memo {
	a, next, code := reply.GetAnswer(r.b, r.at)
	r.step(next, code)
	return api.Memo(a)
}
