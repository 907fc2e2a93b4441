import Derived.Deep.LoopGhost
import Derived.Lib.SlBytesConst
import Derived.Test.YtfdgkleoaehjaaaGreatDoorsGBB
set_option maxHeartbeats 2000000
namespace Go.Proofs.YtfdgkleoaehjaaaGreatDoor.M
set_option linter.unusedVariables false
set_option maxRecDepth 100000
def tl (v : Nat) : List Nat := if h : v = 0 then [] else (48 + v % 10) :: tl (v / 10)

termination_by v

decreasing_by omega

theorem mQ : tl 0 = [] := by rw [tl]; simp

theorem lL {v : Nat} (h : v ≠ 0) : tl v = (48 + v % 10) :: tl (v / 10) := by rw [tl]; simp [h]

def txt (v : Nat) : List Nat := if v = 0 then [48] else (tl v).reverse

theorem KV (v : Nat) : Dig (tl v) := by
 induction v using Nat.strongRecOn with
 | ind v ih =>
   by_cases h : v = 0
   . subst h; rw [mQ]; intro c hc; simp at hc
   . rw [lL h];intro c hc;rcases List.mem_cons.1 hc with rfl | hc
     . omega
     . exact ih (v / 10) (by omega) c hc

theorem AM (v : Nat) : Dig (txt v) := by
 unfold txt
 by_cases h : v = 0
 . rw [if_pos h]; intro c hc; simp at hc; omega
 . rw [if_neg h]; intro c hc; exact KV v c (List.mem_reverse.1 hc)

theorem xQ : ∀ (n v : Nat), v < 10 ^ n -> (tl v).length <= n
 | 0, v, h => by
   have : v = 0 := by simpa using h
   subst this;rw [mQ]; simp
 | n + 1, v, h => by
   by_cases h0 : v = 0
   . subst h0; rw [mQ]; simp
   . rw [lL h0, List.length_cons];have := xQ n (v / 10) (by rw [Nat.pow_succ] at h; omega);omega

theorem j3 (n v : Nat) (h : v < 10 ^ (n + 1)) : (txt v).length <= n + 1 := by
 unfold txt
 by_cases h0 : v = 0
 . rw [if_pos h0]; simp
 . rw [if_neg h0, List.length_reverse]; exact xQ _ _ h

theorem oD (v : Nat) : 0 < (txt v).length := by
 unfold txt
 by_cases h : v = 0
 . rw [if_pos h]; simp
 . rw [if_neg h, lL h]; simp

theorem DJ (xs : List Nat) (k : Nat) (h : k < xs.length) : xs.reverse.take (k + 1) = xs.reverse.take k ++ [xs.getD (xs.length - 1 - k) 0] := by
 rw [jQ _ _ (by simpa using h)]
 congr 2
 rw [List.getD_eq_getElem?_getD, List.getD_eq_getElem?_getD, List.getElem?_reverse h]

end Go.Proofs.YtfdgkleoaehjaaaGreatDoor.M
namespace Go.Proofs.YtfdgkleoaehjaaaGreatDoor
set_option linter.unusedVariables false
set_option maxRecDepth 100000
namespace M

def gC (z : Int) : List Nat := (if z < 0 then [45] else []) ++ txt z.natAbs

def pt (ds : List Nat) (p : Int) : List Nat :=
 if p < -5 \/ 21 < p then ds.take 1 ++ ((if 1 < ds.length then 46 :: ds.drop 1 else []) ++ (101 :: gC (p - 1)))
 else if p <= 0 then 48 :: 46 :: (List.replicate (-p).toNat 48 ++ ds)
 else if (ds.length : Int) <= p then ds ++ List.replicate (p - ds.length).toNat 48
 else ds.take p.toNat ++ (46 :: ds.drop p.toNat)

def sgl (ng : Bool) : List Nat := if ng then [45] else []

theorem I5 (ng : Bool) : ∀ x ∈ sgl ng, x < 256 := by cases ng <;> simp [sgl]

theorem mV (v : Nat) : ∀ x ∈ txt v, x < 256 := fun x hx => by
 have := AM v x hx;omega

theorem jE (z : Int) : ∀ x ∈ gC z, x < 256 := by
 intro x hx;unfold gC at hx;rcases List.mem_append.1 hx with h | h
 . split at h
   . simp at h; omega
   . simp at h
 . exact mV _ x h

theorem DQ (z : Int) (h : z.natAbs < 10000) : (gC z).length <= 5 := by
 unfold gC;rw [List.length_append];have := j3 3 z.natAbs (by omega)
 split <;> simp <;> omega

theorem mJ (z : Int) : 0 < (gC z).length := by
 unfold gC;rw [List.length_append];have := oD z.natAbs;omega

theorem LM (ds : List Nat) (p : Int) (h : ∀ x ∈ ds, x < 256) : ∀ x ∈ pt ds p, x < 256 := by
 intro x hx;unfold pt at hx;split at hx
 . rcases List.mem_append.1 hx with g | g
   . exact h x (List.mem_of_mem_take g)
   . rcases List.mem_append.1 g with g | g
     . split at g
       . rcases List.mem_cons.1 g with g | g
         . omega
         . exact h x (List.mem_of_mem_drop g)
       . simp at g
     . rcases List.mem_cons.1 g with g | g
       . omega
       . exact jE _ x g
 . split at hx
   . rcases List.mem_cons.1 hx with g | g
     . omega
     . rcases List.mem_cons.1 g with g | g
       . omega
       . rcases List.mem_append.1 g with g | g
         . have := (List.mem_replicate.1 g).2; omega
         . exact h x g
   . split at hx
     . rcases List.mem_append.1 hx with g | g
       . exact h x g
       . have := (List.mem_replicate.1 g).2; omega
     . rcases List.mem_append.1 hx with g | g
       . exact h x (List.mem_of_mem_take g)
       . rcases List.mem_cons.1 g with g | g
         . omega
         . exact h x (List.mem_of_mem_drop g)

end M

open Go.RowKit
theorem D7 (xs : List Nat) (k : Nat) (h : k < xs.length) : X (xs.drop k) = xs.getD k 0 + 4294967296 * X (xs.drop (k + 1)) := by
 rw [List.drop_eq_getElem_cons h]
 simp [X, M.val, List.getD_eq_getElem?_getD, List.getElem?_eq_getElem h]

theorem xI {T' T r x q r' d : Nat} {B : Nat} (h : T' * d + r = T) (hq : q * d + r' = r * B + x) : (q + B * T') * d + r' = x + B * T := by
 rw [<- h, Nat.add_mul, Nat.mul_add, Nat.mul_assoc, Nat.mul_comm B r];omega

theorem tL (ao : Option Addr) (n cap d a : Nat) (w : World) (hl : (D a).length = n) (hn : n <= 4194304) (hd : 0 < d) (hdb : d <= 4294967296) (hr : Rd w ao (D a)) :
 Calls Tryz.prog 143 #[.slice ao n cap, .int .u64 (d : Int)] w fun e w' => ∃ qa qc, e = .returned (.tuple #[.slice qa (D (a / d)).length qc, .int .u64 ((a % d : Nat) : Int)]) /\ w'.ownsRow w.heap.size 25 1 (.slice qa (D (a / d)).length qc) (D (a / d)).length (U (D (a / d))) /\ Below w.heap.size w w' := by
 obtain ⟨i0, hi, hz0, hz1, hz2⟩ := info_parts Tryz.infoU
 have hmk := fun (wx : World) => run_make (P := Tryz.prog) wx 56 25 i0 (.int .u64 0) Tryz.underlying56 hi hz0 .i64 .i64 (n : Int) (n : Int) (by omega) (Int.le_refl _) (by rw [hz2]; omega) (by omega)
 have et : ((n : Int)).toNat = n := by omega
 rw [et] at hmk;go_enter Tryz.func143, Tryz.ntmps143
 go_wp2
 go_loopw [7, 8] (fun rs i wr => ∃ (k : Nat) (cur : List Nat) (r : Nat), k <= n /\ i = .int .i64 ((k : Int) - 1) /\ rs = .int .u64 (r : Int) /\ r < d /\ Blk wr w.heap.size cur /\ cur.length = n /\ (∀ x ∈ cur, x < 4294967296) /\ Below w.heap.size w wr /\ X (cur.drop k) * d + r = X ((D a).drop k)) (fun _ i _ => (intOf i + 1).toNat)
 case atStart =>
  refine ⟨n, List.replicate n 0, 0, Nat.le_refl _, by go_num, rfl, hd, fC _ _, by simp, ?_, (Below.refl _ _).alloc (Nat.le_refl _) _, ?_⟩
  . intro x hx; rw [List.eq_of_mem_replicate hx]; omega
  . rw [List.drop_of_length_le (by simp), List.drop_of_length_le (by omega)]; simp [X, M.val]
 case round =>
  obtain ⟨k, cur, r, hk, rfl, rfl, hrd, hB, hcl, hcf, hbl, hv⟩ := hrel;have HV := hid hv; clear hv
  by_cases hlt : 0 < k
  . obtain ⟨k, rfl⟩ : ∃ k', k = k' + 1 := ⟨k - 1, by omega⟩;have e1 : (((k + 1 : Nat) : Int) - 1) = (k : Int) := by omega
    rw [e1];obtain ⟨b2, o2, hao, hc2⟩ := hr (by omega);subst hao;have hca := (hbl.cell (p := ⟨b2, o2 + k, none⟩) (World.block_lt_of_cell? w _ (hc2 k (by omega)))).trans (hc2 k (by omega));clear hc2;have hcs := hB.cell k (by omega);have hfs := hB.frozen k;have hx1 : (D a).getD k 0 < 4294967296 := (gO a).get k;have hxs := D7 (D a) k (by omega);obtain ⟨x, hxx⟩ : ∃ x : Nat, x = (D a).getD k 0 := ⟨_, rfl⟩;rw [<- hxx] at hca hx1 hxs;obtain ⟨o, hoo⟩ : ∃ o : Nat, o = cur.getD k 0 := ⟨_, rfl⟩;rw [<- hoo] at hcs;clear hxx hoo;have hge : (0 : Int) <= (k : Int) := by omega
    have hlt2 : (k : Int) < (n : Int) := by omega
    obtain ⟨s, hs⟩ : ∃ s, s = x + r * 4294967296 := ⟨_, rfl⟩
    have hsb : s < d * 4294967296 := by
     have : (r + 1) * 4294967296 <= d * 4294967296 := Nat.mul_le_mul_right _ hrd;omega
    have hs64 : s < 18446744073709551616 := by omega
    have hor : bits BinOp.or IntKind.u64 ((r : Int) * 4294967296) (x : Int) = (s : Int) := by
     have h1 := sG x r hx1 (by omega)
     have h2 : bits BinOp.or IntKind.u64 ((r : Int) * 4294967296) (x : Int) = bits BinOp.or IntKind.u64 (x : Int) ((r : Int) * 4294967296) := by
      simp only [bits];rw [BitVec.or_comm]
     rw [h2, h1, hs]
    have hsh : IntKind.u64.wrap ((r : Int) * 4294967296) = (r : Int) * 4294967296 := by rw [IntKind.wrap_u64]; omega
    obtain ⟨Q, hQ⟩ : ∃ Q, Q = s / d := ⟨_, rfl⟩;obtain ⟨R, hR⟩ : ∃ R, R = s % d := ⟨_, rfl⟩;have hRd : R < d := by rw [hR]; exact Nat.mod_lt _ hd
    have hsum : Q * d + R = r * 4294967296 + x := by rw [hQ, hR, Nat.mul_comm, Nat.div_add_mod, hs]; omega
    have hQb : Q < 4294967296 := by rw [hQ, Nat.div_lt_iff_lt_mul hd, Nat.mul_comm]; exact hsb
    have hq' : (s : Int).tdiv (d : Int) = (Q : Int) := by rw [hQ]; rfl
    have hr' : (s : Int).tmod (d : Int) = (R : Int) := by rw [hR]; rfl
    have hd0 : ((d : Int) == 0) = false := by simp; omega
    have hd1 : ¬ (d : Int) = 0 := by omega
    have HS := hid hs; have HQ := hid hQ; have HR := hid hR; have HSM := hid hsum; have HB := hid hB; have HBL := hid hbl; have HXS := hid hxs;clear hs hQ hR hsum hB hbl hxs;go_wp2_with fail;go_roundw
    case rel =>
     refine ⟨k, cur.set k Q, R, by omega, rfl, rfl, hRd, HB.out.set k Q _ rfl, by simp [hcl], ?_, HBL.out.setCell (p := ⟨w.heap.size, k, none⟩) (Nat.le_refl _) _, ?_⟩
     . intro y hy;rcases List.mem_or_eq_of_mem_set hy with h | h
       . exact hcf y h
       . omega
     . rw [D7 _ k (by simp; omega), M.cJ _ _ _ (by omega), List.drop_set_of_lt (by omega), HXS.out];exact xI HV.out HSM.out
    case measure => simp [intOf]
  . have hk0 : k = 0 := by omega
    subst hk0;have hv := HV.out;rw [List.drop_zero, List.drop_zero, X_D] at hv
    have hq : X cur = a / d := by
     rw [<- hv, Nat.mul_comm, Nat.mul_add_div hd, Nat.div_eq_of_lt hrd, Nat.add_zero]
    have hm : a % d = r := by rw [<- hv, Nat.mul_comm, Nat.mul_add_mod, Nat.mod_eq_of_lt hrd]
    have kT := bO 4294967296 (by omega) (some ⟨w.heap.size, 0, none⟩) n n cur wr hcl (Nat.le_refl _) (by omega) hcf hB.rd0;have HB := hid hB; have HBL := hid hbl; have HM := hid hm; have HQ := hid hq;clear hB hbl hm hq hv;go_wp2_with fail;refine kT.mono ?_;rintro e w2 ⟨qa, qc, rfl, ho, hb⟩;have e1 : M.dig 4294967296 (M.val 4294967296 cur) = D (a / d) := by show D (X cur) = _; rw [HQ.out]
    rw [e1] at ho |-;go_wp2_with fail
    go_ret2
    rw [HM.out];exact ⟨qa, qc, rfl, aP ho HBL.out.size, HBL.out.trans (hb.mono HBL.out.size)⟩

theorem nI (v : Nat) : (D v).length = 0 ↔ v = 0 := by
 constructor
 . intro h;have := lY v 0 (by omega);omega
 . rintro rfl;have := M.len_of_lt (B := 4294967296) (by omega) 0 0 (by omega);have e : (D 0).length <= 0 := this;omega

theorem fN (u t : Nat) (h : t <= 9) : u / 10 ^ t = u / 1000000000 * 10 ^ (9 - t) + u % 1000000000 / 10 ^ t := by
 have e : (1000000000 : Nat) = 10 ^ t * 10 ^ (9 - t) := by rw [<- Nat.pow_add, show t + (9 - t) = 9 by omega]
 have h1 : 10 ^ t * (10 ^ (9 - t) * (u / 1000000000)) + u % 1000000000 = u := by
  rw [<- Nat.mul_assoc, <- e]; exact Nat.div_add_mod u 1000000000
 have h2 : u / 10 ^ t = (10 ^ t * (10 ^ (9 - t) * (u / 1000000000)) + u % 1000000000) / 10 ^ t := by rw [h1]
 rw [h2, Nat.mul_add_div (Nat.pow_pos (by omega)), Nat.mul_comm (10 ^ (9 - t))]

theorem AF {W : World} {b1 b2 e1 e2 k1 k2 : Nat} {v1 v2 : Value} {xs ys : List Value} (h1 : W.ownsRow b1 e1 1 v1 k1 xs) (h2 : W.ownsRow b2 e2 1 v2 k2 ys) (hne : e1 ≠ e2) : v1.ownBlock = none \/ v1.ownBlock ≠ v2.ownBlock := by
 rcases h1.2 with ⟨rfl, _⟩ | ⟨g, cap, cur, rfl, _, hg, _⟩
 . exact .inl rfl
 . rcases h2.2 with ⟨rfl, _⟩ | ⟨g2, cap2, cur2, rfl, _, hg2, _⟩
   . exact .inr (by simp [Value.ownBlock])
   . refine .inr ?_;intro e;simp only [Value.ownBlock, Option.some.injEq] at e;subst e;have := hg.symm.trans hg2
     simp at this
     exact hne this.2

theorem pG (a n : Nat) (h : (D a).length <= n) : (M.tl a).length <= 10 * n := by
 refine M.xQ _ _ ?_;have h1 := lY a n h;have h2 : (4294967296 : Nat) ^ n <= 10 ^ (10 * n) := by rw [Nat.pow_mul]; exact Nat.pow_le_pow_left (by decide) _
 omega

theorem AR (a d n : Nat) (h : (D a).length <= n) : (D (a / d)).length <= n :=
 M.len_of_lt (B := 4294967296) (by omega) _ _ (Nat.lt_of_le_of_lt (Nat.div_le_self _ _) (lY a n h))

theorem fH (ao : Option Addr) (n cap v : Nat) (w : World) (hl : (D v).length = n) (hn : n <= 100000) (hr : Rd w ao (D v)) :
 Calls Tryz.prog 120 #[.slice ao n cap] w fun e w' => RetR w w' e (M.txt v) /\ (v ≠ 0 -> RetY w w' e (M.txt v)) := by
 obtain ⟨i0, hi, hz0, hz1, hz2⟩ := info_parts Tryz.infoY
 by_cases hv : v = 0
 . subst hv;have hn0 : n = 0 := by rw [<- hl]; exact (nI 0).2 rfl
   subst hn0
   have hcv := fun (W : World) => Go.Lib.run_convert_bytes_const (P := Tryz.prog) W 22 5 #[.int .u8 48] 1 1 Tryz.underlying22 Tryz.underlying5
   go_enter Tryz.func120, Tryz.ntmps120;go_wp2_with fail;go_ret
   refine ⟨⟨some ⟨w.heap.size, 0, none⟩, 1, rfl, ?_, by decide, (Below.refl _ _).alloc (Nat.le_refl _) _⟩, fun h => absurd rfl h⟩
   intro _
   refine ⟨w.heap.size, 0, rfl, fun i hi => ?_⟩
   have hi0 : i = 0 := by have : (M.txt 0).length = 1 := rfl; omega
   subst hi0;have hh : (w.alloc (Obj.cells #[Value.int IntKind.u8 48] 5 (1, 2))).heap[w.heap.size]? = some (Obj.cells #[Value.int IntKind.u8 48] 5 (1, 2)) := heap_alloc_new w _
   show World.cell? _ _ = _
   unfold World.cell?;rw [Nat.zero_add];simp only [hh]
   rfl
 . have hn0 : ¬ n = 0 := by rw [<- hl]; intro e; exact hv ((nI v).1 e)
   have hn0' : ((n : Int) == 0) = false := by simp; omega
   have HV := hid hv; clear hv;go_enter Tryz.func120, Tryz.ntmps120;go_wp2_with fail
   go_loopg [0, 3] v (fun u av bk wr => ∃ (m c1 k c2 : Nat) (aa bb : Option Addr) (bs : List Nat), av = .slice aa m c1 /\ (D u).length = m /\ m <= n /\ Rd wr aa (D u) /\ bk = .slice bb k c2 /\ wr.ownsRow w.heap.size 5 1 (.slice bb k c2) k (UB bs) /\ M.tl v = bs ++ M.tl u /\ Below w.heap.size w wr)
   case atStart => exact ⟨n, cap, 0, 0, ao, none, [], rfl, hl, Nat.le_refl _, hr, rfl, World.ownsRow_nil _ _ _ _, rfl, Below.refl _ _⟩
   case round =>
    obtain ⟨m, c1, k, c2, aa, bb, bs, rfl, hlm, hmn, hrd, rfl, hown, htl, hbl⟩ := hrel;obtain ⟨u, hgk⟩ : ∃ u, u = gk := ⟨_, rfl⟩;subst hgk
    by_cases hu : u = 0
    . have hm0 : m = 0 := by rw [<- hlm, hu]; exact (nI 0).2 rfl
      subst hm0;have hbs : M.tl v = bs := by rw [htl, hu, M.mQ, List.append_nil]
      have hkl : bs.length = k := fO hown;have hkb : k <= 1000000 := by rw [<- hkl, <- hbs]; have := pG v n (by omega); omega
      have hrb := RdY.own hown;have hk0 : 0 < bs.length := by rw [<- hbs, M.lL HV.out]; simp
      obtain ⟨b2, o2, rfl, hcc⟩ := hrb hk0;have HBS := hid hbs; have HBL := hid hbl;clear hown htl hbl hbs hrd hu;go_wp2_with fail
      go_loopw [7, 8] (fun ov i wx => ∃ (t oc : Nat) (oa : Option Addr), t <= k /\ i = .int .i64 ((k : Int) - 1 - t) /\ ov = .slice oa t oc /\ wx.ownsRow wr.heap.size 5 1 (.slice oa t oc) t (UB (bs.reverse.take t)) /\ Below wr.heap.size wr wx) (fun _ i _ => (intOf i + 1).toNat)
      case atStart => exact ⟨0, 0, none, by omega, by go_num, rfl, by rw [List.take_zero]; exact World.ownsRow_nil _ _ _ _, Below.refl _ _⟩
      case round =>
       rename World => wx
       obtain ⟨t, oc, oa, ht, rfl, rfl, own3, b3⟩ := hrel
       by_cases hlt : t < k
       . obtain ⟨j, hj⟩ : ∃ j, j + 1 + t = k := ⟨k - 1 - t, by omega⟩;have e1 : (k : Int) - 1 - t = (j : Int) := by omega
         rw [e1];have hcj := (b3.cell (p := ⟨b2, o2 + j, none⟩) (World.block_lt_of_cell? wr _ (hcc j (by omega)))).trans (hcc j (by omega));have hge : (0 : Int) <= (j : Int) := by omega
         have hjk : (j : Int) < (k : Int) := by omega
         have hst := M.DJ bs t (by omega);rw [show bs.length - 1 - t = j by omega] at hst;obtain ⟨x, hx⟩ : ∃ x, x = bs.getD j 0 := ⟨_, rfl⟩;rw [<- hx] at hcj hst;have HST := hid hst; have OWN3 := hid own3; have B3 := hid b3;clear hx hst own3 b3
         go_wp2_with (at_builtin; refine wpList_append_own _ rfl _ _ 22 rfl wr.heap.size 5 i0 (.int .u8 0) 1 1 Tryz.underlying22 hi hz0 hz1 hz2 rfl (by decide) _ _ _ rfl (OWN3.out.alloc _) ⟨wx.heap.size, 0, none⟩ 1 1 (UB [x]) rfl rfl ?c1 ?c2 ?c3 ?c4 ?c5 ?_)
         case c1 =>
          intro j u hj
          match j, hj with
          | 0, hj => simp [UB] at hj; subst hj; simp [Addr.add]
         case c2 => exact gQ _
         case c3 => unfold maxLen; omega
         case c4 => omega
         case c5 => have := B3.out.size; simp; omega
         intro v' w3 hown' hgrow _;obtain ⟨oa3, cap', rfl⟩ := dH hown';go_wp2_with fail;go_roundw
         case rel =>
          refine ⟨t + 1, cap', oa3, by omega, by congr 1; omega, rfl, by rw [HST.out, cQ]; exact hown', ?_⟩
          exact (B3.out.alloc B3.out.size _).grown hgrow (by have := B3.out.size; simp; omega) (fun j e => bM OWN3.out e)
         case measure => simp [intOf]
       . have e : t = k := by omega
         subst e;have hge : ¬ (0 : Int) <= (t : Int) - 1 - t := by omega
         have OWN3 := hid own3; have B3 := hid b3;clear own3 b3;go_wp2_with fail;go_ret;have etx : M.txt v = bs.reverse := by unfold M.txt; rw [if_neg HV.out, HBS.out]
         have hy : RetY w wx (.returned (.slice oa t oc)) (M.txt v) := by
          have h1 := OWN3.out;rw [List.take_of_length_le (by simp; omega)] at h1;have eln : (M.txt v).length = t := by rw [etx]; simp [hkl]
          unfold RetY;rw [eln, etx];exact ⟨oa, oc, rfl, jX h1 HBL.out.size, HBL.out.trans (B3.out.mono HBL.out.size)⟩
         exact ⟨hy.toR, fun _ => hy⟩
    . have hm0 : (0 : Int) < (m : Int) := by
       have : m ≠ 0 := by rw [<- hlm]; intro e; exact hu ((nI u).1 e)
       omega
      have HOWN := hid hown; have HTL := hid htl; have HBL := hid hbl;clear hown htl hbl;have kS := tL aa m c1 1000000000 u wr hlm (by omega) (by omega) (by omega) hrd;go_wp2_with fail;refine kS.mono ?_;rintro e w1 ⟨qa, qc, rfl, hq1, hb1⟩;have hqn := AR u 1000000000 m (by omega);have own1 := lH HOWN.out hb1;have b1 := HBL.out.trans (hb1.mono HBL.out.size);have BB := hid HBL.out.size;clear hb1 HOWN HBL;obtain ⟨q, hq⟩ : ∃ q, q = u / 1000000000 := ⟨_, rfl⟩;obtain ⟨r0, hr0⟩ : ∃ r0, r0 = u % 1000000000 := ⟨_, rfl⟩;rw [<- hq] at hq1 hqn |-;rw [<- hr0];obtain ⟨m2, hm2⟩ : ∃ m2, m2 = (D q).length := ⟨_, rfl⟩;rw [<- hm2] at hq1 hqn |-;have HQ := hid hq; have HR0 := hid hr0; have HM2 := hid hm2; have OWN1 := hid own1; have HQ1 := hid hq1; have B1 := hid b1;clear hq hr0 hm2 own1 hq1 b1;go_wp2_with fail
      go_loopw [3, 5, 6] (fun bk rs j wi => ∃ (t k2 c3 : Nat) (bb2 : Option Addr) (bs2 : List Nat), t <= 9 /\ j = .int .i64 (t : Int) /\ rs = .int .u64 ((r0 / 10 ^ t : Nat) : Int) /\ bk = .slice bb2 k2 c3 /\ wi.ownsRow w.heap.size 5 1 (.slice bb2 k2 c3) k2 (UB bs2) /\ M.tl v = bs2 ++ M.tl (u / 10 ^ t) /\ wi.ownsRow w.heap.size 25 1 (.slice qa m2 qc) m2 (U (D q)) /\ Below w.heap.size w wi) (fun _ _ j _ => 9 - (intOf j).toNat)
      case atStart => exact ⟨0, k, c2, bb, bs, by omega, rfl, by simp, rfl, OWN1.out, by rw [Nat.pow_zero, Nat.div_one]; exact HTL.out, aP HQ1.out BB.out, B1.out⟩
      case round =>
       rename World => wi
       obtain ⟨t, k2, c3, bb2, bs2, ht, rfl, rfl, rfl, own2, htl2, hq2, b2⟩ := hrel
       by_cases ht9 : t < 9
       . have hlt' : (t : Int) < 9 := by omega
         by_cases hq0 : 0 < m2
         . have hc2' : (0 : Int) < (m2 : Int) := by omega
           have hqp : 0 < q := by
            rcases Nat.eq_zero_or_pos q with e | e
            . have h1 := HM2.out; rw [e] at h1; rw [(nI 0).2 rfl] at h1; omega
            . exact e
           have hk1 : bs2.length <= 1000000 := by have h1 := congrArg List.length htl2; rw [List.length_append] at h1; have h2 := pG v n (by omega); omega
           have hk2 : bs2.length = k2 := fO own2
           have hut : u / 10 ^ t ≠ 0 := by
            rw [fN u t ht, <- HQ.out, <- HR0.out];generalize r0 / 10 ^ t = z at *;have h2 : 0 < q * 10 ^ (9 - t) := Nat.mul_pos hqp (Nat.pow_pos (by omega));omega
           have htl3 := M.lL hut
           have hdg : u / 10 ^ t % 10 = r0 / 10 ^ t % 10 := by
            rw [fN u t ht, <- HQ.out, <- HR0.out, show 9 - t = (8 - t) + 1 by omega, Nat.pow_succ, <- Nat.mul_assoc, Nat.add_comm, Nat.add_mul_mod_self_right]
           obtain ⟨x, hx⟩ : ∃ x, x = r0 / 10 ^ t := ⟨_, rfl⟩;have hxl : x < 1000000000 := by rw [hx]; exact Nat.lt_of_le_of_lt (Nat.div_le_self _ _) (by rw [HR0.out]; exact Nat.mod_lt _ (by omega))
           rw [<- hx] at hdg |-;obtain ⟨c, hcv⟩ : ∃ c, c = 48 + x % 10 := ⟨_, rfl⟩;have hcb : c <= 57 := by omega
           have s1 : (x : Int).tmod 10 = ((x % 10 : Nat) : Int) := by rw [Int.tmod_eq_emod_of_nonneg (by omega)]; omega
           have s2 : IntKind.u64.wrap (48 + (x : Int) % 10) = (c : Int) := by rw [IntKind.wrap_u64]; omega
           have s3 : (c : Int) % 256 = (c : Int) := by omega
           have s4 : (x : Int).tdiv 10 = ((x / 10 : Nat) : Int) := by rw [Int.tdiv_eq_ediv_of_nonneg (by omega)]; omega
           have HX := hid hx; have HC := hid hcv; have HD := hid hdg; have OWN2 := hid own2; have HTL2 := hid htl2; have HTL3 := hid htl3; have HQ2 := hid hq2; have B2 := hid b2;clear hx hcv hdg own2 htl2 htl3 hq2 b2
           have hnew : ∀ j u, (UB [c])[j]? = some u -> (wi.alloc (.cells #[.int .u8 (c : Int)] 5)).cell? ((⟨wi.heap.size, 0, none⟩ : Addr).add j) = some u := by
            intro j u hj
            match j, hj with
            | 0, hj => simp [UB] at hj; subst hj; simp [Addr.add]
           go_wp2_with (at_builtin; refine wpList_append_own _ rfl _ _ 22 rfl w.heap.size 5 i0 (.int .u8 0) 1 1 Tryz.underlying22 hi hz0 hz1 hz2 rfl (by decide) _ _ _ rfl (OWN2.out.alloc _) ⟨wi.heap.size, 0, none⟩ 1 1 (UB [c]) rfl rfl ?c1 ?c2 ?c3 ?c4 ?c5 ?_)
           case c1 => first | exact hnew | (intro j u hj; simpa [UB] using hj)
           case c2 => exact gQ _
           case c3 => unfold maxLen; omega
           case c4 => omega
           case c5 => have := B2.out.size; simp; omega
           intro v' w3 hown' hgrow _;obtain ⟨oa3, cap', rfl⟩ := dH hown';go_wp2_with fail;go_roundw
           case rel =>
            refine ⟨t + 1, k2 + 1, cap', oa3, bs2 ++ [c], by omega, by go_num, ?_, rfl, by rw [cQ]; exact hown', ?_, ?_, ?_⟩
            . rw [Nat.pow_succ, <- Nat.div_div_eq_div_mul, <- HX.out]; congr 1
            . rw [HTL2.out, HTL3.out, HD.out, <- HC.out, Nat.pow_succ, <- Nat.div_div_eq_div_mul, List.append_assoc]; rfl
            . exact (HQ2.out.alloc _).kept hgrow (AF HQ2.out OWN2.out (by decide))
            . exact (B2.out.alloc B2.out.size _).grown hgrow (by have := B2.out.size; simp; omega) (fun j e => bM OWN2.out e)
           case measure => simp [intOf]; omega
         . have hq1 : q = 0 := (nI q).1 (by rw [<- HM2.out]; omega);have hq3 : ¬ (0 : Int) < (m2 : Int) := by omega
           by_cases hr1 : 0 < r0 / 10 ^ t
           . have hc2' : 0 < r0 / 10 ^ t := hr1;have hc4 : (0 : Int) < ((r0 / 10 ^ t : Nat) : Int) := by omega
             have hk1 : bs2.length <= 1000000 := by have h1 := congrArg List.length htl2; rw [List.length_append] at h1; have h2 := pG v n (by omega); omega
             have hk2 : bs2.length = k2 := fO own2
             have hut : u / 10 ^ t ≠ 0 := by
              rw [fN u t ht, <- HQ.out, <- HR0.out];generalize r0 / 10 ^ t = z at *;omega
             have htl3 := M.lL hut
             have hdg : u / 10 ^ t % 10 = r0 / 10 ^ t % 10 := by
              rw [fN u t ht, <- HQ.out, <- HR0.out, show 9 - t = (8 - t) + 1 by omega, Nat.pow_succ, <- Nat.mul_assoc, Nat.add_comm, Nat.add_mul_mod_self_right]
             obtain ⟨x, hx⟩ : ∃ x, x = r0 / 10 ^ t := ⟨_, rfl⟩;have hxl : x < 1000000000 := by rw [hx]; exact Nat.lt_of_le_of_lt (Nat.div_le_self _ _) (by rw [HR0.out]; exact Nat.mod_lt _ (by omega))
             rw [<- hx] at hdg hc2' hc4 hr1 |-;obtain ⟨c, hcv⟩ : ∃ c, c = 48 + x % 10 := ⟨_, rfl⟩;have hcb : c <= 57 := by omega
             have s1 : (x : Int).tmod 10 = ((x % 10 : Nat) : Int) := by rw [Int.tmod_eq_emod_of_nonneg (by omega)]; omega
             have s2 : IntKind.u64.wrap (48 + (x : Int) % 10) = (c : Int) := by rw [IntKind.wrap_u64]; omega
             have s3 : (c : Int) % 256 = (c : Int) := by omega
             have s4 : (x : Int).tdiv 10 = ((x / 10 : Nat) : Int) := by rw [Int.tdiv_eq_ediv_of_nonneg (by omega)]; omega
             have HX := hid hx; have HC := hid hcv; have HD := hid hdg; have OWN2 := hid own2; have HTL2 := hid htl2; have HTL3 := hid htl3; have HQ2 := hid hq2; have B2 := hid b2;clear hx hcv hdg own2 htl2 htl3 hq2 b2
             have hnew : ∀ j u, (UB [c])[j]? = some u -> (wi.alloc (.cells #[.int .u8 (c : Int)] 5)).cell? ((⟨wi.heap.size, 0, none⟩ : Addr).add j) = some u := by
              intro j u hj
              match j, hj with
              | 0, hj => simp [UB] at hj; subst hj; simp [Addr.add]
             go_wp2_with (at_builtin; refine wpList_append_own _ rfl _ _ 22 rfl w.heap.size 5 i0 (.int .u8 0) 1 1 Tryz.underlying22 hi hz0 hz1 hz2 rfl (by decide) _ _ _ rfl (OWN2.out.alloc _) ⟨wi.heap.size, 0, none⟩ 1 1 (UB [c]) rfl rfl ?c1 ?c2 ?c3 ?c4 ?c5 ?_)
             case c1 => first | exact hnew | (intro j u hj; simpa [UB] using hj)
             case c2 => exact gQ _
             case c3 => unfold maxLen; omega
             case c4 => omega
             case c5 => have := B2.out.size; simp; omega
             intro v' w3 hown' hgrow _;obtain ⟨oa3, cap', rfl⟩ := dH hown';go_wp2_with fail;go_roundw
             case rel =>
              refine ⟨t + 1, k2 + 1, cap', oa3, bs2 ++ [c], by omega, by go_num, ?_, rfl, by rw [cQ]; exact hown', ?_, ?_, ?_⟩
              . rw [Nat.pow_succ, <- Nat.div_div_eq_div_mul, <- HX.out]; congr 1
              . rw [HTL2.out, HTL3.out, HD.out, <- HC.out, Nat.pow_succ, <- Nat.div_div_eq_div_mul, List.append_assoc]; rfl
              . exact (HQ2.out.alloc _).kept hgrow (AF HQ2.out OWN2.out (by decide))
              . exact (B2.out.alloc B2.out.size _).grown hgrow (by have := B2.out.size; simp; omega) (fun j e => bM OWN2.out e)
             case measure => simp [intOf]; omega
           . have hz : r0 / 10 ^ t = 0 := Nat.eq_zero_of_not_pos hr1;rw [hz]
             have htlq : M.tl v = bs2 ++ M.tl q := by
              rw [htl2, fN u t ht, <- HQ.out, <- HR0.out, hz, hq1]
              simp
             have HU := hid htlq; have OWN2 := hid own2; have HQ2 := hid hq2; have B2 := hid b2;clear htlq own2 hq2 b2 htl2;go_wp2_with fail
             go_roundg q
             case measure => rw [HQ.out]; omega
             case rel => exact ⟨m2, qc, k2, c3, qa, bb2, bs2, rfl, HM2.out.symm, by omega, Rd.own HQ2.out, rfl, OWN2.out, HU.out, B2.out⟩
       . have hlt' : ¬ (t : Int) < 9 := by omega
         have e9 : t = 9 := by omega
         subst e9;have htlq : M.tl v = bs2 ++ M.tl q := by rw [htl2, HQ.out]
         obtain ⟨x9, hx9⟩ : ∃ x, x = r0 / 10 ^ 9 := ⟨_, rfl⟩;rw [<- hx9];clear hx9;have HU := hid htlq; have OWN2 := hid own2; have HQ2 := hid hq2; have B2 := hid b2;clear htlq own2 hq2 b2 htl2;go_wp2_with fail
         go_roundg q
         case measure => rw [HQ.out]; omega
         case rel => exact ⟨m2, qc, k2, c3, qa, bb2, bs2, rfl, HM2.out.symm, by omega, Rd.own HQ2.out, rfl, OWN2.out, HU.out, B2.out⟩

theorem nD (z : Int) (hz : -100000000 < z /\ z < 100000000) (w : World) :
 Calls Tryz.prog 90 #[.int .i64 z] w fun e w' => RetR w w' e (M.gC z) := by
 by_cases h0 : z < 0
 . obtain ⟨u, eu⟩ : ∃ u : Nat, z = -(u : Int) := ⟨z.natAbs, by omega⟩;have hei : M.gC z = 45 :: M.txt u := by unfold M.gC; rw [if_pos h0, show z.natAbs = u by omega]; rfl
   have hu1 : IntKind.i64.wrap (-z) = (u : Int) := by rw [IntKind.wrap_i64]; omega
   have hu2 : IntKind.u64.wrap (u : Int) = (u : Int) := by rw [IntKind.wrap_u64]; omega
   have kc := Lib.run_convert_bytes_const (P := Tryz.prog) w 22 5 #[.int .u8 45] 1 1 Tryz.underlying22 Tryz.underlying5;have hl : (D u).length <= 6 := dO u (by omega);have b1 : Below w.heap.size w (w.alloc (.cells #[.int .u8 45] 5 (1, 2))) := (Below.refl _ _).alloc (Nat.le_refl _) _
   have R1 : RdB (w.alloc (.cells #[.int .u8 45] 5 (1, 2))) (some ⟨w.heap.size, 0, none⟩) [45] := by
    refine ⟨fun x hx => by simp at hx; omega, fun _ => ⟨w.heap.size, 0, rfl, fun i hi => ?_⟩⟩
    obtain rfl : i = 0 := by simp at hi; exact hi
    rw [cell_of_row _ w.heap.size (0 + 0) _ _ (1, 2) (heap_alloc_new w _)]
    rfl
   have HE := hid hei; have HU := hid (show 1 <= u /\ u < 100000000 by omega); have HR1 := hid R1; have HB1 := hid b1;clear hei eu R1 b1;go_enter Tryz.func90, Tryz.ntmps90;go_wp2_with fail;refine (bQ u _ (by have := HU.out; omega)).mono ?_;rintro e v1 ⟨la, lc, rfl, lo, hb1⟩;go_wp2_with fail;refine (fH la _ lc u _ rfl (by omega) (Rd.own lo)).mono ?_;rintro e v2 ⟨_, hY⟩;obtain ⟨ta, tc, rfl, town, hb2⟩ := hY (by have := HU.out; omega);have r2 := (HR1.out.below hb1).below hb2;have B2 := (HB1.out.trans (hb1.mono HB1.out.size)).trans (hb2.mono (HB1.out.trans (hb1.mono HB1.out.size)).size);have hp := M.oD u;have hlt := M.j3 7 u (by have := HU.out; omega);obtain ⟨g, cap, etx, _, _⟩ := town.form hp;cases etx;have rt : RdB v2 (some ⟨g, 0, none⟩) (M.txt u) := (OwnV.of_own town (M.mV u)).rd;have HB2 := hid B2; have HRT := hid rt; have HR2 := hid r2;obtain ⟨m, em⟩ : ∃ m, m = (M.txt u).length := ⟨_, rfl⟩;rw [<- em] at hp hlt |-;have HEM := hid em;clear hb1 hb2 lo town rt r2 B2 em hY
   go_wp2_with (at_builtin; refine tX rfl _ _ rfl v2 ⟨w.heap.size, 0, none⟩ 1 [45] rfl rfl (by omega) HR2.out ⟨g, 0, none⟩ m tc (M.txt u) rfl HEM.out.symm hp HRT.out (by omega) ?_)
   intro ra rc v3 own3 b3;go_wp2_with fail;go_ret;have h3 : (M.gC z).length = 1 + m := by rw [HE.out, List.length_cons, <- HEM.out]; omega
   have o3 := OwnV.of_own own3 (by rw [<- HE.out]; exact M.jE z);have hc := iL own3;rw [<- HE.out] at o3;rw [<- h3] at o3 hc;exact ⟨ra, rc, by rw [h3]; rfl, o3.rd.y, hc, HB2.out.trans (b3.mono HB2.out.size)⟩
 . obtain ⟨u, rfl⟩ : ∃ u : Nat, z = (u : Int) := ⟨z.toNat, by omega⟩;have hei : M.gC (u : Int) = M.txt u := by unfold M.gC; rw [if_neg h0, List.nil_append]; rfl
   have hu2 : IntKind.u64.wrap (u : Int) = (u : Int) := by rw [IntKind.wrap_u64]; omega
   have hl : (D u).length <= 6 := dO u (by omega);rw [hei];go_enter Tryz.func90, Tryz.ntmps90;go_wp2_with fail;refine (bQ u _ (by omega)).mono ?_;rintro e v1 ⟨la, lc, rfl, lo, hb1⟩;go_wp2_with fail;refine (fH la _ lc u _ rfl (by omega) (Rd.own lo)).mono ?_;rintro e v2 ⟨hR, _⟩;have HR := hid (hR.later hb1);obtain ⟨ra, rc, rfl, _, _, _⟩ := hR;go_wp2_with fail;go_ret;exact HR.out

end Go.Proofs.YtfdgkleoaehjaaaGreatDoor
