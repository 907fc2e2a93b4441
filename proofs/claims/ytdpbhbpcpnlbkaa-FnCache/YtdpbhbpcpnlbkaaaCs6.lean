import Derived.Test.YtdpbhbpcpnlbkaaaCs3
import Derived.Test.YtdpbhbpcpnlbkaaaCaS
namespace Go.Proofs.Ytdpbhbpcpnlbkaa
open Go.RowKit Go.Maps
set_option linter.unusedVariables false
set_option maxRecDepth 100000
structure SL where
 L : SB
 rb : Nat
 tb : Nat
 ab : Nat
 tv : Value
 ov : Value
 ob : Nat → Nat
 len : Nat → Nat
 B : Nat

def ftu (pa : Option Addr) (pn pc n : Nat) : Nat → Value := fun i => if i = 0 then .slice pa pn pc else if i = 1 then .int .i64 (n : Int) else .int .i64 ((n - pn : Nat) : Int)

structure SS where
 nt : Nat
 ns : Nat
 c : Q.Cch
 fin : Nat → Nat
 ts : Nat → Nat
 cur : Nat → Q.Sea
 out : Nat → Nat → Nat
 ky : Nat → Int × Int
 g : Nat → Bool
 dn : Bool

structure MJ (w0 : World) (l : SL) (pa : Option Addr) (pn pc : Nat) (z : SS) (wr : World) : Prop where
 si : ∃ R, SI wr l.L R ∧ SC l.L R z.c ∧ ∀ t, t < l.L.T → z.g t = true → SN l.L R.n t (z.ky t) (z.cur t)
 rep : Cls wr l.rb (rpc z.dn z.ns l.tv l.ov Q.Rst.init.c (.slice none 0 0)) 32
 tv : wr.ownsRow l.B 3 1 l.tv l.L.T ((List.range l.L.T).map fun t => .int .i64 (z.ts t))
 ov : wr.ownsRow l.B 26 1 l.ov l.L.T ((List.range l.L.T).map fun t => .slice (some ⟨l.ob t, 0, none⟩) (l.len t) (l.len t))
 oo : ∀ t, t < l.L.T → Bf wr (l.ob t) 3 (l.len t) (fun i => .int .i64 (z.out t i))
 fin : Bf wr l.ab 3 l.L.T (fun t => .int .i64 (z.fin t))
 tu : Bf wr l.tb 80 3 (ftu pa pn pc z.nt)
 bl : Below w0.heap.size w0 wr

structure MN (l : SL) : Prop where
 qs : l.L.qb ≠ l.L.sb
 qh : l.L.qb ≠ l.L.hb
 qn : l.L.qb ≠ l.L.nb
 qr : l.L.qb ≠ l.rb
 qa : l.L.qb ≠ l.ab
 qu : l.L.qb ≠ l.tb
 sh : l.L.sb ≠ l.L.hb
 sn : l.L.sb ≠ l.L.nb
 sr : l.L.sb ≠ l.rb
 sa : l.L.sb ≠ l.ab
 su : l.L.sb ≠ l.tb
 hn : l.L.hb ≠ l.L.nb
 hr : l.L.hb ≠ l.rb
 ha : l.L.hb ≠ l.ab
 hu : l.L.hb ≠ l.tb
 nr : l.L.nb ≠ l.rb
 na : l.L.nb ≠ l.ab
 nu : l.L.nb ≠ l.tb
 ra : l.rb ≠ l.ab
 ru : l.rb ≠ l.tb
 au : l.ab ≠ l.tb
 tq : l.tv.ownBlock ≠ some l.L.qb
 vq : l.ov.ownBlock ≠ some l.L.qb
 oq : ∀ t, t < l.L.T → l.ob t ≠ l.L.qb
 ts : l.tv.ownBlock ≠ some l.L.sb
 vs : l.ov.ownBlock ≠ some l.L.sb
 os : ∀ t, t < l.L.T → l.ob t ≠ l.L.sb
 th : l.tv.ownBlock ≠ some l.L.hb
 vh : l.ov.ownBlock ≠ some l.L.hb
 oh : ∀ t, t < l.L.T → l.ob t ≠ l.L.hb
 tn : l.tv.ownBlock ≠ some l.L.nb
 vn : l.ov.ownBlock ≠ some l.L.nb
 on : ∀ t, t < l.L.T → l.ob t ≠ l.L.nb
 tr : l.tv.ownBlock ≠ some l.rb
 vr : l.ov.ownBlock ≠ some l.rb
 or : ∀ t, t < l.L.T → l.ob t ≠ l.rb
 ta : l.tv.ownBlock ≠ some l.ab
 va : l.ov.ownBlock ≠ some l.ab
 oa : ∀ t, t < l.L.T → l.ob t ≠ l.ab
 tu : l.tv.ownBlock ≠ some l.tb
 vu : l.ov.ownBlock ≠ some l.tb
 ou : ∀ t, t < l.L.T → l.ob t ≠ l.tb
 tto : ∀ t, t < l.L.T → l.tv.ownBlock ≠ some (l.ob t)
 vo : ∀ t, t < l.L.T → l.ov.ownBlock ≠ some (l.ob t)
 tw : ∀ g, l.tv.ownBlock = some g → l.ov.ownBlock ≠ some g
 oi : ∀ t t', t < l.L.T → t' < l.L.T → l.ob t = l.ob t' → t = t'

structure SOK (w0 : World) (l : SL) : Prop where
 B : l.B = w0.heap.size
 th : ∀ g, l.tv.ownBlock = some g → g < l.L.hb
 oh : ∀ t, t < l.L.T → l.ob t < l.L.hb
 ha : l.L.hb < l.ab
 oi : ∀ t t', t < l.L.T → t' < l.L.T → l.ob t = l.ob t' → t = t'
 tto : ∀ t, t < l.L.T → l.tv.ownBlock ≠ some (l.ob t)
 bq : l.B ≤ l.L.qb
 bs : l.B ≤ l.L.sb
 bh : l.B ≤ l.L.hb
 bn : l.B ≤ l.L.nb
 br : l.B ≤ l.rb
 ba : l.B ≤ l.ab
 bu : l.B ≤ l.tb
 bo : ∀ t, t < l.L.T → l.B ≤ l.ob t

theorem MJ.ne {w0 : World} {l : SL} {pa : Option Addr} {pn pc : Nat} {z : SS} {wr : World} (m : MJ w0 l pa pn pc z wr) (k : SOK w0 l) : MN l := by
 obtain ⟨⟨R, si, -, -⟩, rep, tv, ov, oo, fin, tu, bl⟩ := m
 have r := Bf.cls rep
 exact {
  qs := si.q.ne si.s (by decide)
  qh := si.q.ne si.h (by decide)
  qn := si.q.ne si.n (by decide)
  qr := si.q.ne r (by decide)
  qa := si.q.ne fin (by decide)
  qu := si.q.ne tu (by decide)
  sh := si.s.ne si.h (by decide)
  sn := si.s.ne si.n (by decide)
  sr := si.s.ne r (by decide)
  sa := si.s.ne fin (by decide)
  su := si.s.ne tu (by decide)
  hn := si.h.ne si.n (by decide)
  hr := si.h.ne r (by decide)
  ha := Nat.ne_of_lt k.ha
  hu := si.h.ne tu (by decide)
  nr := si.n.ne r (by decide)
  na := si.n.ne fin (by decide)
  nu := si.n.ne tu (by decide)
  ra := r.ne fin (by decide)
  ru := r.ne tu (by decide)
  au := fin.ne tu (by decide)
  tq := own_ty tv si.q (by decide)
  vq := own_ty ov si.q (by decide)
  oq := fun t ht => (oo t ht).ne si.q (by decide)
  ts := own_ty tv si.s (by decide)
  vs := own_ty ov si.s (by decide)
  os := fun t ht => (oo t ht).ne si.s (by decide)
  th := fun e => Nat.lt_irrefl _ (k.th _ e)
  vh := own_ty ov si.h (by decide)
  oh := fun t ht e => by have := k.oh t ht; omega
  tn := own_ty tv si.n (by decide)
  vn := own_ty ov si.n (by decide)
  on := fun t ht => (oo t ht).ne si.n (by decide)
  tr := own_ty tv r (by decide)
  vr := own_ty ov r (by decide)
  or := fun t ht => (oo t ht).ne r (by decide)
  ta := fun e => by have := k.th _ e; have := k.ha; omega
  va := own_ty ov fin (by decide)
  oa := fun t ht e => by have := k.oh t ht; have := k.ha; omega
  tu := own_ty tv tu (by decide)
  vu := own_ty ov tu (by decide)
  ou := fun t ht => (oo t ht).ne tu (by decide)
  tto := k.tto
  vo := fun t ht => own_ty ov (oo t ht) (by decide)
  tw := fun g e => own_ne tv ov (by decide) e
  oi := k.oi }

theorem MJ.tn {w0 : World} {l : SL} {pa : Option Addr} {pn pc : Nat} {z : SS} {wr wv : World} (m : MJ w0 l pa pn pc z wr) (b : Below wr.heap.size wr wv) : MJ w0 l pa pn pc z wv := by
 obtain ⟨⟨R, si, sc, sn⟩, rep, tv, ov, oo, fin, tu, bl⟩ := m
 have t := Tn.below (fun _ => False) b
 exact ⟨⟨R, si.below b, sc, sn⟩, rep.below b, own_tn tv t (fun _ _ h => h), own_tn ov t (fun _ _ h => h), fun t ht => (oo t ht).below b, fin.below b, tu.below b, bl.trans (b.mono bl.size)⟩

theorem MJ.qt {w0 : World} {l : SL} {pa : Option Addr} {pn pc : Nat} {z : SS} {wr wv : World} (m : MJ w0 l pa pn pc z wr) (b : Qt wr wv) : MJ w0 l pa pn pc z wv := m.tn (b.below _)

theorem MJ.tun1 {w0 : World} {l : SL} {pa : Option Addr} {pn pc : Nat} {z : SS} {wr : World} (m : MJ w0 l pa pn pc z wr) (k : SOK w0 l) (nn : MN l) (x : Value) (hx : x = .int .i64 ((z.nt : Int) + 1)) (y : Value) (hy : y = .int .i64 ((z.nt + 1 - pn : Nat) : Int)) : MJ w0 l pa pn pc { z with nt := z.nt + 1 } ((wr.setCell ⟨l.tb, 2, none⟩ y).setCell ⟨l.tb, 1, none⟩ x) := by
 obtain ⟨⟨R, si, sc, sn⟩, rep, tv, ov, oo, fin, tu, bl⟩ := m
 have t := (Tn.set (w := wr) (fun g => g = l.tb) l.tb 2 y rfl).trans (Tn.set (fun g => g = l.tb) l.tb 1 x rfl)
 refine ⟨⟨R, ⟨si.q.tn t nn.qu, si.s.tn t nn.su, si.h.tn t nn.hu, si.n.tn t nn.nu⟩, sc, sn⟩, (t.block _ rep.lt nn.ru).trans rep, own_tn tv t (fun g e e2 => nn.tu (e2 ▸ e)), own_tn ov t (fun g e e2 => nn.vu (e2 ▸ e)), fun t1 ht => (oo t1 ht).tn t (nn.ou t1 ht), fin.tn t nn.au, ((tu.set 2 y).set 1 x).congr (fun i hi => ?_), (bl.setCell (p := ⟨_, _, none⟩) (by rw [← k.B]; exact k.bu) _).setCell (p := ⟨_, _, none⟩) (by rw [← k.B]; exact k.bu) _⟩
 match i, hi with
 | 0, _ => rfl
 | 1, _ => rw [upd_at, hx]; simp [ftu]
 | 2, _ => rw [upd_ne _ _ (by decide), upd_at, hy]; simp [ftu]

theorem MJ.tun2 {w0 : World} {l : SL} {pa : Option Addr} {pn pc : Nat} {z : SS} {wr : World} (m : MJ w0 l pa pn pc z wr) (k : SOK w0 l) (nn : MN l) (x : Value) (hx : x = .int .i64 ((z.nt : Int) + 1)) (hp : z.nt < pn) : MJ w0 l pa pn pc { z with nt := z.nt + 1 } (wr.setCell ⟨l.tb, 1, none⟩ x) := by
 obtain ⟨⟨R, si, sc, sn⟩, rep, tv, ov, oo, fin, tu, bl⟩ := m
 have t := (Tn.set (w := wr) (fun g => g = l.tb) l.tb 1 x rfl)
 refine ⟨⟨R, ⟨si.q.tn t nn.qu, si.s.tn t nn.su, si.h.tn t nn.hu, si.n.tn t nn.nu⟩, sc, sn⟩, (t.block _ rep.lt nn.ru).trans rep, own_tn tv t (fun g e e2 => nn.tu (e2 ▸ e)), own_tn ov t (fun g e e2 => nn.vu (e2 ▸ e)), fun t1 ht => (oo t1 ht).tn t (nn.ou t1 ht), fin.tn t nn.au, (tu.set 1 x).congr (fun i hi => ?_), bl.setCell (p := ⟨_, _, none⟩) (by rw [← k.B]; exact k.bu) _⟩
 match i, hi with
 | 0, _ => rfl
 | 1, _ => rw [upd_at, hx]; simp [ftu]
 | 2, _ => rw [upd_ne _ _ (by decide)]; simp [ftu]; omega

theorem MJ.key {w0 : World} {l : SL} {pa : Option Addr} {pn pc : Nat} {z : SS} {wr : World} (m : MJ w0 l pa pn pc z wr) (k : SOK w0 l) (nn : MN l) (t0 : Nat) (ht0 : t0 < l.L.T) (kk : Int × Int) : MJ w0 l pa pn pc z ((wr.setCell ⟨l.L.nb, t0 * 6, none⟩ (.int .i64 kk.1)).setCell ⟨l.L.nb, t0 * 6 + 1, none⟩ (.int .i64 kk.2)) ∧ ∃ R, SI ((wr.setCell ⟨l.L.nb, t0 * 6, none⟩ (.int .i64 kk.1)).setCell ⟨l.L.nb, t0 * 6 + 1, none⟩ (.int .i64 kk.2)) l.L R ∧ SC l.L R z.c ∧ (∀ t, t < l.L.T → z.g t = true → SN l.L R.n t (z.ky t) (z.cur t)) ∧ R.n (t0 * 6) = .int .i64 kk.1 ∧ R.n (t0 * 6 + 1) = .int .i64 kk.2 := by
 obtain ⟨⟨R, si, sc, sn⟩, rep, tv, ov, oo, fin, tu, bl⟩ := m
 have t := (Tn.set (w := wr) (fun g => g = l.L.nb) l.L.nb (t0 * 6) (.int .i64 kk.1) rfl).trans (Tn.set (fun g => g = l.L.nb) l.L.nb (t0 * 6 + 1) (.int .i64 kk.2) rfl)
 have si2 := (si.setN (t0 * 6) (.int .i64 kk.1)).setN (t0 * 6 + 1) (.int .i64 kk.2)
 have sn2 : ∀ t, t < l.L.T → z.g t = true → SN l.L (upd (upd R.n (t0 * 6) (.int .i64 kk.1)) (t0 * 6 + 1) (.int .i64 kk.2)) t (z.ky t) (z.cur t) := by
  intro t1 ht hg
  obtain ⟨a, b, c⟩ := sn t1 ht hg
  refine ⟨?_, ?_, fun h => ⟨?_, ?_⟩⟩
  · rw [upd_ne _ _ (by omega), upd_ne _ _ (by omega)]; exact a
  · rw [upd_ne _ _ (by omega), upd_ne _ _ (by omega)]; exact b
  · rw [upd_ne _ _ (by omega), upd_ne _ _ (by omega)]; exact (c h).1
  · rw [upd_ne _ _ (by omega), upd_ne _ _ (by omega)]; exact (c h).2
 refine ⟨⟨⟨_, si2, sc.other _, sn2⟩, (t.block _ rep.lt (Ne.symm nn.nr)).trans rep, own_tn tv t (fun g e e2 => nn.tn (e2 ▸ e)), own_tn ov t (fun g e e2 => nn.vn (e2 ▸ e)), fun t1 ht => (oo t1 ht).tn t (nn.on t1 ht), fin.tn t (Ne.symm nn.na), tu.tn t (Ne.symm nn.nu), (bl.setCell (p := ⟨_, _, none⟩) (by rw [← k.B]; exact k.bn) _).setCell (p := ⟨_, _, none⟩) (by rw [← k.B]; exact k.bn) _⟩, _, si2, sc.other _, sn2, ?_, ?_⟩
 · simp only; rw [upd_ne _ _ (by omega), upd_at]
 · simp only; rw [upd_at]

theorem MJ.step {w0 : World} {l : SL} {pa : Option Addr} {pn pc : Nat} {z : SS} {wr : World} (m : MJ w0 l pa pn pc z wr) (k : SOK w0 l) (nn : MN l) {R0 : SR} {wv : World} (t0 : Nat) (kk : Int × Int) (x : Q.Cch × Q.Sea × Nat) (sn0 : ∀ t, t < l.L.T → z.g t = true → SN l.L R0.n t (z.ky t) (z.cur t)) (hk : z.ky t0 = kk) (so : SO wr l.L R0 t0 kk x wv) : MJ w0 l pa pn pc { z with c := x.1, cur := Q.updN z.cur t0 x.2.1, g := fun t => if t = t0 then decide (x.2.2 = 0) else z.g t } wv := by
 obtain ⟨⟨R, si, sc, sn⟩, rep, tv, ov, oo, fin, tu, bl⟩ := m
 obtain ⟨R', si', sc', sn', hn, t⟩ := so
 have np : ∀ g, g ≠ l.L.qb → g ≠ l.L.sb → g ≠ l.L.hb → g ≠ l.L.nb → ¬ pS l.L g := by
  rintro g a b c d (e | e | e | e)
  · exact a e
  · exact b e
  · exact c e
  · exact d e
 have npv : ∀ v : Value, v.ownBlock ≠ some l.L.qb → v.ownBlock ≠ some l.L.sb → v.ownBlock ≠ some l.L.hb → v.ownBlock ≠ some l.L.nb → ∀ g, v.ownBlock = some g → ¬ pS l.L g := by
  intro v a b c d g e
  exact np g (fun h => a (h ▸ e)) (fun h => b (h ▸ e)) (fun h => c (h ▸ e)) (fun h => d (h ▸ e))
 refine ⟨⟨R', si', sc', fun t1 ht hg => ?_⟩, (t.block _ rep.lt (np _ (Ne.symm nn.qr) (Ne.symm nn.sr) (Ne.symm nn.hr) (Ne.symm nn.nr))).trans rep, own_tn tv t (npv _ nn.tq nn.ts nn.th nn.tn), own_tn ov t (npv _ nn.vq nn.vs nn.vh nn.vn), fun t1 ht => (oo t1 ht).tn t (np _ (nn.oq t1 ht) (nn.os t1 ht) (nn.oh t1 ht) (nn.on t1 ht)), fin.tn t (np _ (Ne.symm nn.qa) (Ne.symm nn.sa) (Ne.symm nn.ha) (Ne.symm nn.na)), tu.tn t (np _ (Ne.symm nn.qu) (Ne.symm nn.su) (Ne.symm nn.hu) (Ne.symm nn.nu)), bl.trans (t.under _ bl.size ?_)⟩
 · simp only [Q.updN] at hg ⊢
   by_cases e : t1 = t0
   · rw [if_pos e] at hg ⊢
     subst e
     rw [hk]; exact sn' (of_decide_eq_true hg)
   · rw [if_neg e] at hg ⊢
     obtain ⟨a, b, c⟩ := sn0 t1 ht hg
     have hh : ∀ d, d < 6 → R'.n (t1 * 6 + d) = R0.n (t1 * 6 + d) := fun d hd => hn _ (by omega)
     exact ⟨(hh 2 (by omega)).trans a, (hh 3 (by omega)).trans b, fun h => ⟨(hh 4 (by omega)).trans (c h).1, (hh 5 (by omega)).trans (c h).2⟩⟩
 · rintro g (e | e | e | e)
   · rw [e, ← k.B]; exact k.bq
   · rw [e, ← k.B]; exact k.bs
   · rw [e, ← k.B]; exact k.bh
   · rw [e, ← k.B]; exact k.bn

theorem MJ.steps {w0 : World} {l : SL} {pa : Option Addr} {pn pc : Nat} {z : SS} {wr : World} (m : MJ w0 l pa pn pc z wr) (k : SOK w0 l) (nn : MN l) (x : Value) (hx : x = .int .i64 ((z.ns : Int) + 1)) : MJ w0 l pa pn pc { z with ns := z.ns + 1 } (wr.setCell ⟨l.rb, 2, none⟩ x) := by
 obtain ⟨⟨R, si, sc, sn⟩, rep, tv, ov, oo, fin, tu, bl⟩ := m
 have t := (Tn.set (w := wr) (fun g => g = l.rb) l.rb 2 x rfl)
 have rep1 : Cls wr l.rb #[.bool true, .bool z.dn, .int .i64 z.ns, l.tv, l.ov, .int .i64 Q.Rst.init.c.hits, .int .i64 Q.Rst.init.c.made, .int .i64 Q.Rst.init.c.pub, .int .i64 Q.Rst.init.c.ev, .int .i64 Q.Rst.init.c.lost, .slice none 0 0] 32 := rep
 subst hx
 exact ⟨⟨R, ⟨si.q.tn t nn.qr, si.s.tn t nn.sr, si.h.tn t nn.hr, si.n.tn t nn.nr⟩, sc, sn⟩, rep1.set 2 _ _ (by simp [rpc]), own_tn tv t (fun g e e2 => nn.tr (e2 ▸ e)), own_tn ov t (fun g e e2 => nn.vr (e2 ▸ e)), fun t1 ht => (oo t1 ht).tn t (nn.or t1 ht), fin.tn t (Ne.symm nn.ra), tu.tn t (Ne.symm nn.ru), bl.setCell (p := ⟨_, _, none⟩) (by rw [← k.B]; exact k.br) _⟩

theorem MJ.done {w0 : World} {l : SL} {pa : Option Addr} {pn pc : Nat} {z : SS} {wr : World} (m : MJ w0 l pa pn pc z wr) (k : SOK w0 l) (nn : MN l) : MJ w0 l pa pn pc { z with dn := true } (wr.setCell ⟨l.rb, 1, none⟩ (.bool true)) := by
 obtain ⟨⟨R, si, sc, sn⟩, rep, tv, ov, oo, fin, tu, bl⟩ := m
 have t := (Tn.set (w := wr) (fun g => g = l.rb) l.rb 1 (.bool true) rfl)
 have rep1 : Cls wr l.rb #[.bool true, .bool z.dn, .int .i64 z.ns, l.tv, l.ov, .int .i64 Q.Rst.init.c.hits, .int .i64 Q.Rst.init.c.made, .int .i64 Q.Rst.init.c.pub, .int .i64 Q.Rst.init.c.ev, .int .i64 Q.Rst.init.c.lost, .slice none 0 0] 32 := rep
 exact ⟨⟨R, ⟨si.q.tn t nn.qr, si.s.tn t nn.sr, si.h.tn t nn.hr, si.n.tn t nn.nr⟩, sc, sn⟩, rep1.set 1 _ _ (by simp [rpc]), own_tn tv t (fun g e e2 => nn.tr (e2 ▸ e)), own_tn ov t (fun g e e2 => nn.vr (e2 ▸ e)), fun t1 ht => (oo t1 ht).tn t (nn.or t1 ht), fin.tn t (Ne.symm nn.ra), tu.tn t (Ne.symm nn.ru), bl.setCell (p := ⟨_, _, none⟩) (by rw [← k.B]; exact k.br) _⟩

theorem map_set_range {α : Type} (T t0 : Nat) (f : Nat → α) (x : α) : ((List.range T).map f).set t0 x = (List.range T).map (fun t => if t = t0 then x else f t) := by
 apply List.ext_getElem?
 intro i
 rw [List.getElem?_set]
 by_cases h : i < T
 · by_cases e : t0 = i
   · subst e; simp [h]
   · rw [if_neg e]; simp [h, Ne.symm e]
 · by_cases e : t0 = i
   · subst e; simp [h]
   · rw [if_neg e]; simp [h]

theorem MJ.tss {w0 : World} {l : SL} {pa : Option Addr} {pn pc : Nat} {z : SS} {wr : World} (m : MJ w0 l pa pn pc z wr) (k : SOK w0 l) (nn : MN l) (g cap t0 : Nat) (hv : l.tv = .slice (some ⟨g, 0, none⟩) l.L.T cap) (x : Value) (hx : x = .int .i64 ((z.ts t0 : Int) + 1)) : MJ w0 l pa pn pc { z with ts := Q.updN z.ts t0 (z.ts t0 + 1) } (wr.setCell ⟨g, t0, none⟩ x) := by
 obtain ⟨⟨R, si, sc, sn⟩, rep, tv, ov, oo, fin, tu, bl⟩ := m
 have t := (Tn.set (w := wr) (fun h => h = g) g t0 x rfl)
 have eb : l.tv.ownBlock = some g := by rw [hv]; rfl
 have gb : l.B ≤ g := (own_lt tv eb).2
 have hne : ∀ b, l.tv.ownBlock ≠ some b → ¬ b = g := fun b h e => h (e ▸ eb)
 refine ⟨⟨R, ⟨si.q.tn t (hne _ nn.tq), si.s.tn t (hne _ nn.ts), si.h.tn t (hne _ nn.th), si.n.tn t (hne _ nn.tn)⟩, sc, sn⟩, (t.block _ rep.lt (hne _ nn.tr)).trans rep, ?_, own_tn ov t (fun g' e e2 => nn.tw g eb (e2 ▸ e)), fun t1 ht => (oo t1 ht).tn t (hne _ (nn.tto t1 ht)), fin.tn t (hne _ nn.ta), tu.tn t (hne _ nn.tu), bl.setCell (p := ⟨_, _, none⟩) (by rw [← k.B]; exact gb) _⟩
 rw [hv] at tv ⊢
 have := (tv.stored t0 x).1
 rw [map_set_range] at this
 have e : (fun t => if t = t0 then x else Value.int .i64 (z.ts t : Int)) = fun t => Value.int .i64 ((Q.updN z.ts t0 (z.ts t0 + 1) t : Nat) : Int) := by
  funext t1; unfold Q.updN; by_cases h : t1 = t0
  · rw [if_pos h, if_pos h, hx]; simp
  · rw [if_neg h, if_neg h]
 rw [e] at this
 exact this

theorem MJ.outs {w0 : World} {l : SL} {pa : Option Addr} {pn pc : Nat} {z : SS} {wr : World} (m : MJ w0 l pa pn pc z wr) (k : SOK w0 l) (nn : MN l) (t0 i v : Nat) (ht0 : t0 < l.L.T) : MJ w0 l pa pn pc { z with out := Q.updN z.out t0 (Q.updN (z.out t0) i v) } (wr.setCell ⟨l.ob t0, i, none⟩ (.int .i64 v)) := by
 obtain ⟨⟨R, si, sc, sn⟩, rep, tv, ov, oo, fin, tu, bl⟩ := m
 have t := (Tn.set (w := wr) (fun h => h = l.ob t0) (l.ob t0) i (.int .i64 v) rfl)
 refine ⟨⟨R, ⟨si.q.tn t (Ne.symm (nn.oq t0 ht0)), si.s.tn t (Ne.symm (nn.os t0 ht0)), si.h.tn t (Ne.symm (nn.oh t0 ht0)), si.n.tn t (Ne.symm (nn.on t0 ht0))⟩, sc, sn⟩, (t.block _ rep.lt (Ne.symm (nn.or t0 ht0))).trans rep, own_tn tv t (fun g e e2 => nn.tto t0 ht0 (e2 ▸ e)), own_tn ov t (fun g e e2 => nn.vo t0 ht0 (e2 ▸ e)), fun t1 ht => ?_, fin.tn t (Ne.symm (nn.oa t0 ht0)), tu.tn t (Ne.symm (nn.ou t0 ht0)), bl.setCell (p := ⟨_, _, none⟩) (by rw [← k.B]; exact k.bo t0 ht0) _⟩
 by_cases e : t1 = t0
 · subst e
   refine ((oo t1 ht).set i _).congr (fun j hj => ?_)
   by_cases e2 : j = i <;> simp [Q.updN, upd, e2]
 · have := (oo t1 ht).tn t (fun h => e (nn.oi t1 t0 ht ht0 h))
   simpa [Q.updN, e] using this

theorem MJ.fins {w0 : World} {l : SL} {pa : Option Addr} {pn pc : Nat} {z : SS} {wr : World} (m : MJ w0 l pa pn pc z wr) (k : SOK w0 l) (nn : MN l) (t0 : Nat) (ht0 : t0 < l.L.T) (hg : z.g t0 = false) (x : Value) (hx : x = .int .i64 ((z.fin t0 : Int) + 1)) (ky : Nat → Int × Int) (hky : ∀ t, t ≠ t0 → ky t = z.ky t) : MJ w0 l pa pn pc { z with fin := Q.updN z.fin t0 (z.fin t0 + 1), ky := ky } (wr.setCell ⟨l.ab, t0, none⟩ x) := by
 obtain ⟨⟨R, si, sc, sn⟩, rep, tv, ov, oo, fin, tu, bl⟩ := m
 have t := (Tn.set (w := wr) (fun h => h = l.ab) l.ab t0 x rfl)
 have sn2 : ∀ t, t < l.L.T → z.g t = true → SN l.L R.n t (ky t) (z.cur t) := fun t1 ht h => by
  rw [hky t1 (fun e => by rw [e, hg] at h; cases h)]; exact sn t1 ht h
 refine ⟨⟨R, ⟨si.q.tn t nn.qa, si.s.tn t nn.sa, si.h.tn t nn.ha, si.n.tn t nn.na⟩, sc, sn2⟩, (t.block _ rep.lt nn.ra).trans rep, own_tn tv t (fun g e e2 => nn.ta (e2 ▸ e)), own_tn ov t (fun g e e2 => nn.va (e2 ▸ e)), fun t1 ht => (oo t1 ht).tn t (nn.oa t1 ht), (fin.set t0 x).congr (fun j hj => ?_), tu.tn t (Ne.symm nn.au), bl.setCell (p := ⟨_, _, none⟩) (by rw [← k.B]; exact k.ba) _⟩
 simp only [Q.updN, upd]
 by_cases e : j = t0 <;> simp [e, hx]

theorem MJ.news {w0 : World} {l : SL} {pa : Option Addr} {pn pc : Nat} {z : SS} {wr : World} (m : MJ w0 l pa pn pc z wr) (k : SOK w0 l) (nn : MN l) (t0 : Nat) (ht0 : t0 < l.L.T) : MJ w0 l pa pn pc { z with cur := Q.updN z.cur t0 Q.new, g := fun t => if t = t0 then true else z.g t } ((((((wr.setCell ⟨l.L.nb, t0 * 6, none⟩ (.int .i64 0)).setCell ⟨l.L.nb, t0 * 6 + 1, none⟩ (.int .i64 0)).setCell ⟨l.L.nb, t0 * 6 + 2, none⟩ (.int .i64 0)).setCell ⟨l.L.nb, t0 * 6 + 3, none⟩ (.int .i64 0)).setCell ⟨l.L.nb, t0 * 6 + 4, none⟩ (.int .i64 0)).setCell ⟨l.L.nb, t0 * 6 + 5, none⟩ (.int .i64 0)) := by
 obtain ⟨⟨R, si, sc, sn⟩, rep, tv, ov, oo, fin, tu, bl⟩ := m
 have t := (((((Tn.set (w := wr) (fun g => g = l.L.nb) l.L.nb (t0 * 6) (.int .i64 0) rfl).trans (Tn.set (fun g => g = l.L.nb) l.L.nb (t0 * 6 + 1) (.int .i64 0) rfl)).trans (Tn.set (fun g => g = l.L.nb) l.L.nb (t0 * 6 + 2) (.int .i64 0) rfl)).trans (Tn.set (fun g => g = l.L.nb) l.L.nb (t0 * 6 + 3) (.int .i64 0) rfl)).trans (Tn.set (fun g => g = l.L.nb) l.L.nb (t0 * 6 + 4) (.int .i64 0) rfl)).trans (Tn.set (fun g => g = l.L.nb) l.L.nb (t0 * 6 + 5) (.int .i64 0) rfl)
 have si2 := (((((si.setN (t0 * 6) (.int .i64 0)).setN (t0 * 6 + 1) (.int .i64 0)).setN (t0 * 6 + 2) (.int .i64 0)).setN (t0 * 6 + 3) (.int .i64 0)).setN (t0 * 6 + 4) (.int .i64 0)).setN (t0 * 6 + 5) (.int .i64 0)
 refine ⟨⟨_, si2, sc.other _, fun t1 ht hg => ?_⟩, (t.block _ rep.lt (Ne.symm nn.nr)).trans rep, own_tn tv t (fun g e e2 => nn.tn (e2 ▸ e)), own_tn ov t (fun g e e2 => nn.vn (e2 ▸ e)), fun t1 ht => (oo t1 ht).tn t (nn.on t1 ht), fin.tn t (Ne.symm nn.na), tu.tn t (Ne.symm nn.nu), bl.trans (t.under _ bl.size (fun g e => by rw [e, ← k.B]; exact k.bn))⟩
 simp only [Q.updN] at hg ⊢
 by_cases e : t1 = t0
 · subst e
   rw [if_pos rfl]
   exact ⟨by simp [upd, Q.new], by simp [upd, Q.new], fun h => by simp [Q.new] at h⟩
 · rw [if_neg e] at hg ⊢
   obtain ⟨a, b, c⟩ := sn t1 ht hg
   have hh : ∀ d, d < 6 → upd (upd (upd (upd (upd (upd R.n (t0 * 6) (.int .i64 0)) (t0 * 6 + 1) (.int .i64 0)) (t0 * 6 + 2) (.int .i64 0)) (t0 * 6 + 3) (.int .i64 0)) (t0 * 6 + 4) (.int .i64 0)) (t0 * 6 + 5) (.int .i64 0) (t1 * 6 + d) = R.n (t1 * 6 + d) := fun d hd => by
    rw [upd_ne _ _ (by omega), upd_ne _ _ (by omega), upd_ne _ _ (by omega), upd_ne _ _ (by omega), upd_ne _ _ (by omega), upd_ne _ _ (by omega)]
   exact ⟨(hh 2 (by omega)).trans a, (hh 3 (by omega)).trans b, fun h => ⟨(hh 4 (by omega)).trans (c h).1, (hh 5 (by omega)).trans (c h).2⟩⟩

end Go.Proofs.Ytdpbhbpcpnlbkaa
