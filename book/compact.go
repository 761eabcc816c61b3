package book

import (
	"pacesetter/api"
	"pacesetter/kv"
	"pacesetter/lease"
)

// Compact leaves out, from the first one on, each Lead without which all records make the same book, and just as many of them are refused.
func Compact(margin int, l []api.Record) []api.Record {
	_, applied := All(margin, l)
	refusals := len(l) - applied
	b := New(margin)
	var kept []api.Record
	for i, r := range l {
		if r.Kind == api.Lead && b.mayLack(r, l[i+1:], margin, refusals) {
			continue
		}
		if b.Apply(r) != api.OK {
			refusals--
		}
		kept = append(kept, r)
	}
	return kept
}

// mayLack tells whether that Lead may be left out between the book's records and those behind it, of which so many are refused, if it isn't. It follows both ways no further than it has to, since a long row of Leads would be gone through anew for each of them: books that are the same stay so; and what is refused more often without the Lead has to be made up for by records that are refused with it.
func (b *Book) mayLack(r api.Record, behind []api.Record, margin, refusals int) bool {
	with, without := b.twin(margin), b.twin(margin)
	if with.Apply(r) != api.OK {
		return false
	}
	more := 0
	for _, next := range behind {
		if more > refusals || Same(with, without) {
			break
		}
		if with.Apply(next) != api.OK {
			refusals--
			more--
		}
		if without.Apply(next) != api.OK {
			more++
		}
	}
	return more == 0 && Same(with, without)
}

// twin is another book that is the same, and of that margin.
func (b *Book) twin(margin int) *Book {
	return &Book{
		leases:  twinLeases(b.view, margin),
		digests: b.twinDigests(),
		view:    b.view,
		units:   b.units,
		history: b.History(),
	}
}

// twinLeases is a table with the lease that the view tells. The epochs ahead of it are taken and dropped one by one, since no table is told its epoch.
func twinLeases(v View, margin int) lease.Table {
	t := lease.New(margin)
	for epoch := 1; epoch < v.Epoch; epoch++ {
		t.Take(leader, 0, 0, 1)
		t.Drop(leader, 0, epoch)
	}
	if v.Epoch > 0 {
		t.Take(leader, v.Leader, v.Until-1, 1)
	}
	return *t
}

// twinDigests is a store of the same digests.
func (b *Book) twinDigests() kv.Store {
	var l []kv.Op
	for _, key := range b.digests.Keys() {
		digest, _ := b.digests.Get(key)
		l = append(l, kv.Op{Key: key, Value: digest})
	}
	s := kv.New()
	s.Do(l)
	return *s
}
