package reply

import (
	"slices"

	"padlock/api"
	"padlock/octet"
)

// MayAnswer reports whether a is well-formed.
func MayAnswer(a api.Answer) bool {
	return a.Client >= 0 && a.Client < api.MaxClients && isNumber(a.Seq) && May(a.Reply)
}

// PutAnswer returns a as bytes.
func PutAnswer(a api.Answer) ([]byte, api.Errno) {
	if !MayAnswer(a) {
		return nil, api.ErrArg
	}
	// What is well-formed has an encoding: none of these fails.
	client, _ := octet.PutByte(a.Client)
	seq, _ := octet.PutNum(a.Seq)
	r, _ := Put(a.Reply)
	return slices.Concat(client, seq, r), api.OK
}

// GetAnswer reads what PutAnswer put at index at, and tells the index behind it.
func GetAnswer(b []byte, at int) (api.Answer, int, api.Errno) {
	client, at, code := octet.Byte(b, at)
	if code != api.OK {
		return api.Answer{}, 0, code
	}
	seq, at, code := octet.Num(b, at)
	if code != api.OK {
		return api.Answer{}, 0, code
	}
	r, at, code := Get(b, at)
	if code != api.OK {
		return api.Answer{}, 0, code
	}
	a := api.Answer{Client: client, Seq: seq, Reply: r}
	if !MayAnswer(a) {
		return api.Answer{}, 0, api.ErrForm
	}
	return a, at, api.OK
}
