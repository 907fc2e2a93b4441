package tests

import (
	"math"
	"testing"

	"loop.example/s01493/impl"
)

// badShapes are shapes of no cache, badKeys keys without an entry.
var (
	badShapes = []impl.CacheConfig{
		{Shards: 0, Slots: 4}, {Shards: -1, Slots: 4}, {Shards: 17, Slots: 4}, {Shards: 2, Slots: 0}, {Shards: 2, Slots: -1},
		{Shards: 2, Slots: 65}, {}, {Shards: 17, Slots: 65}, {Shards: 64, Slots: 16}, {Shards: math.MinInt, Slots: 1},
		{Shards: 1, Slots: math.MinInt}, {Shards: math.MaxInt, Slots: 1}, {Shards: 1, Slots: math.MaxInt}, {Shards: 1<<32 + 1, Slots: 1}, {Shards: 1, Slots: 1<<32 + 1},
	}
	badKeys = []impl.Key{
		{K: 5201, W: 64}, {K: -5201, W: 64}, {K: 0, W: 0}, {K: 0, W: -1}, {K: 0, W: 129}, {K: 5201, W: 129}, {K: -5201, W: 0},
		{K: math.MinInt, W: 64}, {K: math.MaxInt, W: 64}, {K: 0, W: math.MinInt}, {K: 0, W: math.MaxInt}, {K: 1 << 32, W: 64}, {K: 0, W: 1<<32 + 64},
	}
	edgeShapes = []impl.CacheConfig{{Shards: 1, Slots: 1}, {Shards: 1, Slots: 64}, {Shards: 16, Slots: 1}, {Shards: 16, Slots: 64}, {Shards: 2, Slots: 4}, {Shards: 7, Slots: 13}}
	edgeKeys   = []impl.Key{{K: -5200, W: 1}, {K: -5200, W: 128}, {K: 5200, W: 1}, {K: 5200, W: 128}, {K: 0, W: 64}, {K: -1, W: 1}, {K: 1, W: 128}}
)

func TestP9CacheConstants(t *testing.T) {
	if impl.MaxShards != 16 || impl.MaxSlots != 64 || impl.MaxTasks != 8 || impl.MaxKeys != 60 || impl.MaxPicks != 20000 || impl.MaxCacheSteps != 40000 {
		t.Error("limits")
	}
	if impl.OutNone != 0 || impl.OutHit != 1 || impl.OutMade != 2 {
		t.Error("outcomes")
	}
}

func TestP9NotablePlaces(t *testing.T) {
	for _, x := range []struct {
		c     impl.CacheConfig
		key   impl.Key
		shard int
		home  int
	}{
		{impl.CacheConfig{Shards: 16, Slots: 64}, impl.Key{K: -5200, W: 1}, 1, 3},
		{impl.CacheConfig{Shards: 16, Slots: 64}, impl.Key{K: -5200, W: 128}, 0, 0},
		{impl.CacheConfig{Shards: 16, Slots: 64}, impl.Key{K: -5199, W: 1}, 8, 4},
		{impl.CacheConfig{Shards: 16, Slots: 64}, impl.Key{K: -5198, W: 2}, 0, 8},
		{impl.CacheConfig{Shards: 16, Slots: 64}, impl.Key{K: 5200, W: 128}, 0, 32},
		{impl.CacheConfig{Shards: 16, Slots: 64}, impl.Key{K: 5200, W: 1}, 1, 35},
		{impl.CacheConfig{Shards: 13, Slots: 61}, impl.Key{K: 0, W: 64}, 12, 24},
		{impl.CacheConfig{Shards: 13, Slots: 61}, impl.Key{K: -1, W: 64}, 5, 23},
		{impl.CacheConfig{Shards: 1, Slots: 1}, impl.Key{K: 17, W: 5}, 0, 0},
	} {
		if s, h := impl.ShardOf(x.c, x.key), impl.HomeOf(x.c, x.key); s != x.shard || h != x.home {
			t.Errorf("%v %v: shard %d and home %d, not %d and %d", x.c, x.key, s, h, x.shard, x.home)
		}
	}
}

func TestP9EachShape(t *testing.T) {
	for shards := 1; shards <= impl.MaxShards; shards++ {
		for slots := 1; slots <= impl.MaxSlots; slots++ {
			c := impl.CacheConfig{Shards: shards, Slots: slots}
			for _, k := range edgeKeys {
				wantPlaces(t, c, k)
			}
		}
	}
}

func TestP9EachKey(t *testing.T) {
	for _, c := range edgeShapes {
		for k := -impl.MaxPower; k <= impl.MaxPower; k++ {
			wantPlaces(t, c, impl.Key{K: k, W: 64})
		}
		for w := 1; w <= impl.MaxWidth; w++ {
			wantPlaces(t, c, impl.Key{K: -3, W: w})
		}
	}
}

func wantPlaces(t *testing.T, c impl.CacheConfig, k impl.Key) {
	t.Helper()
	if s, h := impl.ShardOf(c, k), impl.HomeOf(c, k); s != shardMeant(c, k) || h != homeMeant(c, k) {
		t.Fatalf("%v %v: shard %d and home %d, not %d and %d", c, k, s, h, shardMeant(c, k), homeMeant(c, k))
	}
}

func wantNoPlaces(t *testing.T, c impl.CacheConfig, k impl.Key) {
	t.Helper()
	if s, h := impl.ShardOf(c, k), impl.HomeOf(c, k); s != -1 || h != -1 {
		t.Errorf("%v %v: shard %d and home %d", c, k, s, h)
	}
}

func TestP9NoPlaces(t *testing.T) {
	for _, c := range badShapes {
		for _, k := range append(edgeKeys, badKeys...) {
			wantNoPlaces(t, c, k)
		}
	}
	for _, c := range edgeShapes {
		for _, k := range badKeys {
			wantNoPlaces(t, c, k)
		}
	}
}

// A key is good where it has an entry.
func TestP9GoodKeysHaveEntries(t *testing.T) {
	c := impl.CacheConfig{Shards: 16, Slots: 64}
	for _, k := range append(edgeKeys, badKeys...) {
		if good := impl.ShardOf(c, k) != -1; good != impl.TenPower(k.K, k.W).OK {
			t.Errorf("%v: good %v", k, good)
		}
	}
}
