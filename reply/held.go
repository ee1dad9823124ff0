package reply

import (
	"padlock/api"
	"padlock/cmd"
	"padlock/octet"
)

// mayHold reports whether a well-formed reply may tell of held as all that is held.
func mayHold(held []api.Grant) bool {
	if len(held) > api.MaxLocks {
		return false
	}
	for i, g := range held {
		if !cmd.Name(g.Name) || !isNumber(g.Token) {
			return false
		}
		if i > 0 && g.Name <= held[i-1].Name {
			return false
		}
	}
	return true
}

// putHeld returns held, which may be held, as bytes.
func putHeld(held []api.Grant) []byte {
	// What may be held has an encoding: none of these fails.
	b, _ := octet.PutByte(len(held))
	for _, g := range held {
		name, _ := octet.PutText(g.Name)
		token, _ := octet.PutNum(g.Token)
		b = append(b, name...)
		b = append(b, token...)
	}
	return b
}

// getHeld reads what putHeld put at index at, whether or not it may be held,
// and tells the index behind it.
func getHeld(b []byte, at int) ([]api.Grant, int, api.Errno) {
	count, at, code := octet.Byte(b, at)
	if code != api.OK {
		return nil, 0, code
	}
	if count > api.MaxLocks {
		return nil, 0, api.ErrForm
	}
	var held []api.Grant
	for range count {
		var g api.Grant
		g, at, code = getGrant(b, at)
		if code != api.OK {
			return nil, 0, code
		}
		held = append(held, g)
	}
	return held, at, api.OK
}

// getGrant reads a name and a token at index at, and tells the index behind them.
func getGrant(b []byte, at int) (api.Grant, int, api.Errno) {
	name, at, code := octet.Text(b, at, api.MaxName)
	if code != api.OK {
		return api.Grant{}, 0, code
	}
	token, at, code := octet.Num(b, at)
	if code != api.OK {
		return api.Grant{}, 0, code
	}
	return api.Grant{Name: name, Token: token}, at, api.OK
}
