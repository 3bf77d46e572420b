// Package queue is layer 1: see shared/doc/01-queue.md.
package queue

import (
	"strings"

	"intarsia/api"
)

// New is an empty queue; Right tells whether one may be; Room is how many bytes have room.
func New(size int) (api.Queue, api.Errno) {
	q := api.Queue{Cap: size}
	if !Right(q) {
		return api.Queue{}, api.ErrArg
	}
	return q, api.OK
}

func Right(q api.Queue) bool {
	return q.Cap >= 1 && q.Cap <= api.MaxQueue && len(q.Bytes) <= q.Cap
}

func Room(q api.Queue) int {
	room, _ := ask(q, func() (int, api.Errno) {
		return q.Cap - len(q.Bytes), api.OK
	})
	return room
}

// Put puts bytes behind, as many as have room; Take takes some off; Line takes a line off.
func Put(q api.Queue, s string) (api.Queue, int, api.Errno) {
	fit, bad := ask(q, func() (int, api.Errno) {
		return min(len(s), q.Cap-len(q.Bytes)), api.OK
	})
	if bad != api.OK {
		return api.Queue{}, 0, bad
	}
	return api.Queue{Bytes: q.Bytes + s[:fit], Cap: q.Cap}, fit, api.OK
}

func Take(q api.Queue, n int) (api.Queue, string, api.Errno) {
	count, bad := ask(q, func() (int, api.Errno) {
		if n < 0 {
			return 0, api.ErrArg
		}
		return min(n, len(q.Bytes)), api.OK
	})
	if bad != api.OK {
		return api.Queue{}, "", bad
	}
	return without(q, count), q.Bytes[:count], api.OK
}

func Line(q api.Queue) (api.Queue, string, api.Errno) {
	end, bad := ask(q, func() (int, api.Errno) {
		at := strings.IndexByte(q.Bytes, '\n')
		if at < 0 {
			return 0, api.ErrShort
		}
		return at, api.OK
	})
	switch bad {
	case api.OK:
		return without(q, end+1), strings.TrimSuffix(q.Bytes[:end], "\r"), api.OK
	case api.ErrShort:
		// The rest of the line may still come, so nothing of it is lost.
		return q, "", bad
	default:
		return api.Queue{}, "", bad
	}
}

// ask puts a question to a queue that may be; one that may not be is never asked, so no question has to check its queue.
func ask(q api.Queue, question func() (int, api.Errno)) (int, api.Errno) {
	if !Right(q) {
		return 0, api.ErrArg
	}
	return question()
}

func without(q api.Queue, count int) api.Queue {
	return api.Queue{Bytes: q.Bytes[count:], Cap: q.Cap}
}
