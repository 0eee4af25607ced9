package past

import "rewind/api"

// Track is the latest records of something, the oldest first.
// A shot goes back Window ticks at most, so that MaxRecords of them are all that can count.
type Track struct {
	records [api.MaxRecords]api.Record
	count   int
}

// Add lays a record behind the others, and lets the oldest go where there is no room.
func (k *Track) Add(r api.Record) {
	if k.count >= api.MaxRecords {
		k.dropOldest()
	}
	k.records[k.count] = r
	k.count++
}

// dropOldest lets the oldest record go, of a track that is full.
func (k *Track) dropOldest() {
	for i := 1; i < api.MaxRecords; i++ {
		k.records[i-1] = k.records[i]
	}
	k.count = api.MaxRecords - 1
}

// Pose is where the thing stood at the time t, by the records that are kept.
func (k *Track) Pose(t int) api.Point {
	return Pose(k.records[:k.count], t)
}
