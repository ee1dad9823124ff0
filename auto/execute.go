package auto

import (
	"padlock/api"
	"padlock/lock"
	"padlock/session"
)

// execute returns s with a client's well-formed command executed, and what the client is told.
func execute(s api.State, client int, c api.Cmd) (api.State, api.Reply) {
	if c.Kind == api.Open {
		s, code := open(s, client)
		return s, tell(s, client, 0, code)
	}
	x, ok := session.Find(s.Sessions, client)
	if !ok || x.Num != c.Session {
		return s, api.Reply{Code: api.ErrSession}
	}
	// The client has a session, and a right state's time is from 0 to High: this does not fail.
	s.Sessions, _ = session.Renew(s.Sessions, client, s.Time)
	ahead, code := 0, api.OK
	switch c.Kind {
	case api.Take, api.Try:
		s, ahead, code = take(s, client, c.Name, c.Kind == api.Take)
	case api.Free:
		s, code = free(s, client, c.Name)
	case api.Close:
		s = without(s, client)
	}
	return s, tell(s, client, ahead, code)
}

// open returns s with a session of a client that has none.
func open(s api.State, client int) (api.State, api.Errno) {
	sessions, code := session.Open(s.Sessions, client, s.Num+1, s.Time)
	if code == api.OK {
		s.Sessions, s.Num = sessions, s.Num+1
	}
	return s, code
}

// take returns s with a lock taken for a client, or with the client in its line, and how many wait ahead.
func take(s api.State, client int, name string, wait bool) (api.State, int, api.Errno) {
	locks, ahead, code := lock.Take(s.Locks, name, client, s.Token, wait)
	switch code {
	case api.OK:
		s.Locks, s.Token = locks, s.Token+1
	case api.ErrWait:
		s.Locks = locks
	}
	return s, ahead, code
}

// free returns s without a client's lock, or its place in a line.
func free(s api.State, client int, name string) (api.State, api.Errno) {
	locks, given, code := lock.Free(s.Locks, name, client, s.Token)
	if code == api.OK {
		s.Locks, s.Token = locks, s.Token+given
	}
	return s, code
}

// tell returns what a client is told of s: its session, if it has one, and with it all that it holds.
func tell(s api.State, client, ahead int, code api.Errno) api.Reply {
	x, ok := session.Find(s.Sessions, client)
	if !ok {
		return api.Reply{Code: code}
	}
	return api.Reply{Code: code, Session: x.Num, Ahead: ahead, Held: lock.Held(s.Locks, client)}
}
