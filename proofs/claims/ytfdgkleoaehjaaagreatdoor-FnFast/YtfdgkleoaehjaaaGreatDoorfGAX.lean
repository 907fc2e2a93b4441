import Derived.Conc.MuLone
import Derived.Maps.OwnSet
import Derived.DeepKeys4
import Derived.Carry
import Derived.Test.YtfdgkleoaehjaaaGreatDoorfGAW
set_option maxHeartbeats 4000000
set_option maxRecDepth 10000
namespace Go.Proofs.YtfdgkleoaehjaaaGreatDoor
open Go.RowKit Go.Maps
open Go.MuLone
set_option linter.unusedVariables false
set_option maxRecDepth 100000

theorem Tryz.cells3:Tryz.prog.cellsOf 3=1:=by kernel_rfl

theorem Tryz.cellsA2:Tryz.prog.cellsOf 150=2:=by kernel_rfl

theorem Tryz.typesPos:0<Tryz.prog.types.size:=of_decide_eq_true (by kernel_rfl)

theorem Tryz.rowA2:(150:TypeId)<Tryz.prog.types.size:=of_decide_eq_true (by kernel_rfl)

theorem Tryz.wideA2:(match Tryz.prog.underlying 150 with|some (.array _ _)|some (.struct _)=>true|_=>false)=true:=by kernel_rfl

theorem xD:Keyed Tryz.prog 150:=Keyed.of_law (deep_law_laid (by kernel_rfl) (m:=3) (by omega) Tryz.rowA2 (by kernel_rfl) Tryz.wideA2)

theorem RV (k w:Int)(hk:(Lit.int .i64 k).wf=true)(hw:(Lit.int .i64 w).wf=true):∃kl,keyOf Tryz.prog 150 (.agg #[.int .i64 k,.int .i64 w])=some kl:=by
 obtain⟨d,hd⟩:∃d,Tryz.prog.types.size=d+1:=⟨_,(Nat.succ_pred_eq_of_pos Tryz.typesPos).symm⟩;refine Option.isSome_iff_exists.1 ?_;unfold keyOf
 simp[Tryz.underlying150,Value.formed,Tryz.cellsA2,hd,Program.keyLits,Tryz.underlying3,Tryz.cells3,Value.cells,hk,hw,List.range,List.range.loop]
 kernel_rfl

theorem NW (w:World):(zeroValue 80).run Tryz.prog w=.ok (.agg #[.int .i64 0,.int .i64 0,.int .u64 0,.int .u64 0,.int .i64 0,.bool false,.bool false]) w:=by kernel_rfl

open Classical in

noncomputable def Rz (v:Value):Option (DataW Unit×List MemPlace):=if v=.agg #[.int .i64 0,.int .i64 0,.int .u64 0,.int .u64 0,.int .i64 0,.bool false,.bool false]then some (.lit (.bool false),[])else some (.lit (.bool true),[])

theorem LZ:Rz (.agg #[.int .i64 0,.int .i64 0,.int .u64 0,.int .u64 0,.int .i64 0,.bool false,.bool false])=some (.lit (.bool false),[]):=by
 unfold Rz;rw[if_pos rfl]

theorem P9 {v:Value}{ps:List MemPlace}(h:Rz v=some (.lit (.bool false),ps)):v=.agg #[.int .i64 0,.int .i64 0,.int .u64 0,.int .u64 0,.int .i64 0,.bool false,.bool false]:=by
 unfold Rz at h;split at h
 . assumption
 . simp at h

theorem sK (v:World)(bm:Nat)(h:v.ownsMap Tryz.prog 150 Rz bm 0 (.map []))(key:Value)(hkey:∃kl,keyOf Tryz.prog 150 key=some kl):
 (Instr.lookup 120 (.map (some bm)) key true).run Tryz.prog v=.ok (.tuple #[.agg #[.int .i64 0,.int .i64 0,.int .u64 0,.int .u64 0,.int .i64 0,.bool false,.bool false],.bool false]) v:=by
 obtain⟨kl,hkl⟩:=hkey;obtain⟨x,ps,hrun,hR⟩:=h.look_ok xD Tryz.underlying120 (NW v) LZ hkl;have e:=P9 (ps:=ps) (by simpa[DataW.atKey]using hR);rw[e]at hrun
 simpa[Maps.has]using hrun

theorem wS (w:World):
 Calls Tryz.prog 35 #[] w fun e w'=>e=.returned (.pointer (some ⟨w.heap.size+1,0,none⟩))/\w'=(w.alloc (.map #[] 0)).alloc (.cells #[.int .i32 0,.int .u32 0,.map (some w.heap.size)] 129):=by
 have hmk:=fun v:World=>run_makeMap (P:=Tryz.prog) 120 v
 go_enter Tryz.func35,Tryz.ntmps35;go_wp2_with fail;go_ret;exact⟨rfl,rfl⟩

theorem pY (b:Int)(w:World):
 Calls Tryz.prog 109 #[.int .i64 b] w fun r w'=>r=.returned (.bool (decide (1<=b/\b<=128)))/\w'=w:=by
 go_enter Tryz.func109,Tryz.ntmps109
 by_cases h0:1<=b
 . by_cases h1:b<=128
   . rw[show decide (1<=b/\b<=128)=true from decide_eq_true (⟨h0,h1⟩)];go_wp2_with fail;go_ret;exact⟨rfl,rfl⟩
   . rw[show decide (1<=b/\b<=128)=false from decide_eq_false (fun h=>by omega)]
     go_wp2_with fail;go_ret;exact⟨rfl,rfl⟩
 . rw[show decide (1<=b/\b<=128)=false from decide_eq_false (fun h=>by omega)]
   go_wp2_with fail;go_ret;exact⟨rfl,rfl⟩

theorem FM (tb:Nat)(k W:Int)(w:World)(h:¬(-5200<=k/\k<=5200/\1<=W/\W<=128)):
 Calls Tryz.prog 80 #[.pointer (some ⟨tb,0,none⟩),.int .i64 k,.int .i64 W] w fun e w'=>e=.returned (pwv 0 0 0 0 false false)/\Below w.heap.size w w':=by
 have e0:pwv 0 0 0 0 false false=.agg #[.int .i64 0,.int .i64 0,.int .u64 0,.int .u64 0,.int .i64 0,.bool false,.bool false]:=by unfold pwv;rfl
 rw[e0]
 by_cases h1:-5200<=k/\k<=5200
 . have hd:decide (-5200<=k/\k<=5200)=true:=decide_eq_true h1
   have hw:decide (1<=W/\W<=128)=false:=decide_eq_false (fun h2=>h ⟨h1.1,h1.2,h2.1,h2.2⟩)
   clear h h1
   go_enter_defers Tryz.func80,Tryz.ntmps80
   go_wp2_with fail;refine(jO k _).mono ?_;rw[hd];rintro e v1 ⟨rfl,rfl⟩;go_wp2_with fail;refine(pY W _).mono ?_;rw[hw];rintro e v1 ⟨rfl,rfl⟩;go_wp2_with fail;exact⟨.agg #[.int .i64 0,.int .i64 0,.int .u64 0,.int .u64 0,.int .i64 0,.bool false,.bool false],by simp[results,Tryz.results80,go_sem],rfl,(Below.refl _ _).alloc (Nat.le_refl _) _⟩
 . have hd:decide (-5200<=k/\k<=5200)=false:=decide_eq_false h1
   go_enter_defers Tryz.func80,Tryz.ntmps80
   go_wp2_with fail;refine(jO k _).mono ?_;rw[hd];rintro e v1 ⟨rfl,rfl⟩;go_wp2_with fail;exact⟨.agg #[.int .i64 0,.int .i64 0,.int .u64 0,.int .u64 0,.int .i64 0,.bool false,.bool false],by simp[results,Tryz.results80,go_sem],rfl,(Below.refl _ _).alloc (Nat.le_refl _) _⟩

structure Z7 (v:World)(g:Nat):Prop where
 c0:v.cell? ⟨g,0,none⟩=some (.int .i64 0)
 c1:v.cell? ⟨g,1,none⟩=some (.int .i64 0)
 c2:v.cell? ⟨g,2,none⟩=some (.int .u64 0)
 c3:v.cell? ⟨g,3,none⟩=some (.int .u64 0)
 c4:v.cell? ⟨g,4,none⟩=some (.int .i64 0)
 c5:v.cell? ⟨g,5,none⟩=some (.bool false)
 c6:v.cell? ⟨g,6,none⟩=some (.bool false)
 f0:v.frozen? ⟨g,0,none⟩=false
 f1:v.frozen? ⟨g,1,none⟩=false
 f2:v.frozen? ⟨g,2,none⟩=false
 f3:v.frozen? ⟨g,3,none⟩=false
 f4:v.frozen? ⟨g,4,none⟩=false
 f5:v.frozen? ⟨g,5,none⟩=false
 f6:v.frozen? ⟨g,6,none⟩=false
 lt:g<v.heap.size

theorem zS (v:World):Z7 (v.alloc (.cells #[.int .i64 0,.int .i64 0,.int .u64 0,.int .u64 0,.int .i64 0,.bool false,.bool false] 80)) v.heap.size:=by
 constructor<;>simp[go_sem]

theorem Z7.below {v v':World}{g:Nat}(h:Z7 v g)(hb:Below v.heap.size v v'):Z7 v' g:=
 ⟨(hb.cell h.lt).trans h.c0,(hb.cell h.lt).trans h.c1,(hb.cell h.lt).trans h.c2,(hb.cell h.lt).trans h.c3,(hb.cell h.lt).trans h.c4,(hb.cell h.lt).trans h.c5,(hb.cell h.lt).trans h.c6,(hb.frozen h.lt).trans h.f0,(hb.frozen h.lt).trans h.f1,(hb.frozen h.lt).trans h.f2,(hb.frozen h.lt).trans h.f3,(hb.frozen h.lt).trans h.f4,(hb.frozen h.lt).trans h.f5,(hb.frozen h.lt).trans h.f6,Nat.lt_of_lt_of_le h.lt hb.size⟩

theorem Z7.al {v:World}{g:Nat}(h:Z7 v g)(o:Obj):Z7 (v.alloc o) g:=h.below ((Below.refl _ _).alloc (Nat.le_refl _) o)

theorem xQ {v v':World}{bm:Nat}(h:v.ownsMap Tryz.prog 150 Rz bm 0 (.map []))(hb:Below v.heap.size v v')(hl:bm<v.heap.size):v'.ownsMap Tryz.prog 150 Rz bm 0 (.map []):=by
 obtain⟨es,clock,h1,r⟩:=h;exact⟨es,clock,(hb.block bm hl).trans h1,r⟩

theorem O6 (v:World)(g:Nat)(a b c d e f i:Value):(∀k o,k≠g->(((((((v.setCell ⟨g,0,none⟩ (a)).setCell ⟨g,1,none⟩ (b)).setCell ⟨g,2,none⟩ (c)).setCell ⟨g,3,none⟩ (d)).setCell ⟨g,4,none⟩ (e)).setCell ⟨g,5,none⟩ (f)).setCell ⟨g,6,none⟩ (i)).cell? ⟨k,o,none⟩=v.cell? ⟨k,o,none⟩)/\(∀k o,k≠g->(((((((v.setCell ⟨g,0,none⟩ (a)).setCell ⟨g,1,none⟩ (b)).setCell ⟨g,2,none⟩ (c)).setCell ⟨g,3,none⟩ (d)).setCell ⟨g,4,none⟩ (e)).setCell ⟨g,5,none⟩ (f)).setCell ⟨g,6,none⟩ (i)).frozen? ⟨k,o,none⟩=v.frozen? ⟨k,o,none⟩)/\(((((((v.setCell ⟨g,0,none⟩ (a)).setCell ⟨g,1,none⟩ (b)).setCell ⟨g,2,none⟩ (c)).setCell ⟨g,3,none⟩ (d)).setCell ⟨g,4,none⟩ (e)).setCell ⟨g,5,none⟩ (f)).setCell ⟨g,6,none⟩ (i)).heap.size=v.heap.size/\(∀(n:Nat)(w:World),Below n w v->n<=g->Below n w (((((((v.setCell ⟨g,0,none⟩ (a)).setCell ⟨g,1,none⟩ (b)).setCell ⟨g,2,none⟩ (c)).setCell ⟨g,3,none⟩ (d)).setCell ⟨g,4,none⟩ (e)).setCell ⟨g,5,none⟩ (f)).setCell ⟨g,6,none⟩ (i))):=by
 have hh:∀k,k≠g->(((((((v.setCell ⟨g,0,none⟩ (a)).setCell ⟨g,1,none⟩ (b)).setCell ⟨g,2,none⟩ (c)).setCell ⟨g,3,none⟩ (d)).setCell ⟨g,4,none⟩ (e)).setCell ⟨g,5,none⟩ (f)).setCell ⟨g,6,none⟩ (i)).heap[k]? =v.heap[k]?:=fun k hk=>((((((Below.heap_setCell _ _ _ _ hk).trans (Below.heap_setCell _ _ _ _ hk)).trans (Below.heap_setCell _ _ _ _ hk)).trans (Below.heap_setCell _ _ _ _ hk)).trans (Below.heap_setCell _ _ _ _ hk)).trans (Below.heap_setCell _ _ _ _ hk)).trans (Below.heap_setCell _ _ _ _ hk)
 refine⟨fun k o hk=>World.cell?_of_block (w:=v) (a:=⟨k,o,none⟩) (hh k hk),fun k o hk=>World.frozen?_of_block (w:=v) (a:=⟨k,o,none⟩) (hh k hk),by simp,fun n w h hg=>?_⟩
 exact((((((h.setCell (p:=⟨g,0,none⟩) hg a).setCell (p:=⟨g,1,none⟩) hg b).setCell (p:=⟨g,2,none⟩) hg c).setCell (p:=⟨g,3,none⟩) hg d).setCell (p:=⟨g,4,none⟩) hg e).setCell (p:=⟨g,5,none⟩) hg f).setCell (p:=⟨g,6,none⟩) hg i

theorem nF {v:World}{g:Nat}(h:Z7 v g)(a b c d e f i:Value):(((((((v.setCell ⟨g,0,none⟩ (a)).setCell ⟨g,1,none⟩ (b)).setCell ⟨g,2,none⟩ (c)).setCell ⟨g,3,none⟩ (d)).setCell ⟨g,4,none⟩ (e)).setCell ⟨g,5,none⟩ (f)).setCell ⟨g,6,none⟩ (i)).cell? ⟨g,0,none⟩=some a/\(((((((v.setCell ⟨g,0,none⟩ (a)).setCell ⟨g,1,none⟩ (b)).setCell ⟨g,2,none⟩ (c)).setCell ⟨g,3,none⟩ (d)).setCell ⟨g,4,none⟩ (e)).setCell ⟨g,5,none⟩ (f)).setCell ⟨g,6,none⟩ (i)).cell? ⟨g,1,none⟩=some b/\(((((((v.setCell ⟨g,0,none⟩ (a)).setCell ⟨g,1,none⟩ (b)).setCell ⟨g,2,none⟩ (c)).setCell ⟨g,3,none⟩ (d)).setCell ⟨g,4,none⟩ (e)).setCell ⟨g,5,none⟩ (f)).setCell ⟨g,6,none⟩ (i)).cell? ⟨g,2,none⟩=some c/\(((((((v.setCell ⟨g,0,none⟩ (a)).setCell ⟨g,1,none⟩ (b)).setCell ⟨g,2,none⟩ (c)).setCell ⟨g,3,none⟩ (d)).setCell ⟨g,4,none⟩ (e)).setCell ⟨g,5,none⟩ (f)).setCell ⟨g,6,none⟩ (i)).cell? ⟨g,3,none⟩=some d/\(((((((v.setCell ⟨g,0,none⟩ (a)).setCell ⟨g,1,none⟩ (b)).setCell ⟨g,2,none⟩ (c)).setCell ⟨g,3,none⟩ (d)).setCell ⟨g,4,none⟩ (e)).setCell ⟨g,5,none⟩ (f)).setCell ⟨g,6,none⟩ (i)).cell? ⟨g,4,none⟩=some e/\(((((((v.setCell ⟨g,0,none⟩ (a)).setCell ⟨g,1,none⟩ (b)).setCell ⟨g,2,none⟩ (c)).setCell ⟨g,3,none⟩ (d)).setCell ⟨g,4,none⟩ (e)).setCell ⟨g,5,none⟩ (f)).setCell ⟨g,6,none⟩ (i)).cell? ⟨g,5,none⟩=some f/\(((((((v.setCell ⟨g,0,none⟩ (a)).setCell ⟨g,1,none⟩ (b)).setCell ⟨g,2,none⟩ (c)).setCell ⟨g,3,none⟩ (d)).setCell ⟨g,4,none⟩ (e)).setCell ⟨g,5,none⟩ (f)).setCell ⟨g,6,none⟩ (i)).cell? ⟨g,6,none⟩=some i:=by
 obtain⟨z0,z1,z2,z3,z4,z5,z6,g0,g1,g2,g3,g4,g5,g6,gl⟩:=h
 simp[go_sem,z0,z1,z2,z3,z4,z5,z6]

theorem zA {w w':World}{b:Nat}(h:w.mapTurned w' b)(g o:Nat)(hl:g<w.heap.size)(hn:g≠b):w'.cell? ⟨g,o,none⟩=w.cell? ⟨g,o,none⟩:=by
 have hblk:=h.grown.block g hl (fun e=>hn (Option.some.inj e))
 simp only[World.cell?,hblk]

structure T2 (tb bm:Nat)(w v:World):Prop where
 os:v.os=w.os
 tape:v.tape=w.tape
 output:v.output=w.output
 size:w.heap.size<=v.heap.size
 block:∀k,k<w.heap.size->k≠tb->k≠bm->v.heap[k]? =w.heap[k]?

theorem T2.refl (tb bm:Nat)(w:World):T2 tb bm w w:=⟨rfl,rfl,rfl,Nat.le_refl _,fun _ _ _ _=>rfl⟩

theorem T2.below {tb bm n:Nat}{w v v':World}(h:T2 tb bm w v)(hb:Below n v v')(hn:w.heap.size<=n):T2 tb bm w v':=
 ⟨hb.os.trans h.os,hb.tape.trans h.tape,hb.output.trans h.output,Nat.le_trans h.size hb.size,fun k hk h1 h2=>(hb.block k (by omega)).trans (h.block k hk h1 h2)⟩

theorem T2.grown {tb bm:Nat}{w v v':World}{row:Option Nat}(h:T2 tb bm w v)(hg:v.grownBy v' row)(hr:∀k,row=some k->k=tb\/k=bm\/w.heap.size<=k):T2 tb bm w v':=
 ⟨hg.os.trans h.os,hg.tape.trans h.tape,hg.output.trans h.output,Nat.le_trans h.size hg.size,fun k hk h1 h2=>(hg.block k (by have:=h.size;omega) (fun e=>by have:=hr k e.symm;omega)).trans (h.block k hk h1 h2)⟩

theorem T2.set {tb bm:Nat}{w v:World}(h:T2 tb bm w v)(g j:Nat)(x:Value)(hg:g=tb\/g=bm\/w.heap.size<=g):T2 tb bm w (v.setCell ⟨g,j,none⟩ x):=
 h.grown (row:=some g) ⟨rfl,rfl,rfl,by simp,fun k _ hk=>Below.heap_setCell _ _ _ k (fun e=>hk (by rw[e]))⟩ (fun k hk=>by cases hk;exact hg)

theorem T2.set7 {tb bm:Nat}{w v:World}(h:T2 tb bm w v)(g:Nat)(a b c d e f i:Value)(hg:g=tb\/g=bm\/w.heap.size<=g):T2 tb bm w (((((((v.setCell ⟨g,0,none⟩ (a)).setCell ⟨g,1,none⟩ (b)).setCell ⟨g,2,none⟩ (c)).setCell ⟨g,3,none⟩ (d)).setCell ⟨g,4,none⟩ (e)).setCell ⟨g,5,none⟩ (f)).setCell ⟨g,6,none⟩ (i)):=
 ((((((h.set g 0 a hg).set g 1 b hg).set g 2 c hg).set g 3 d hg).set g 4 e hg).set g 5 f hg).set g 6 i hg

theorem T2.under {tb bm:Nat}{w v:World}(h:T2 tb bm w v)(B:Nat)(h1:B<=tb)(h2:B<=bm)(h3:B<=w.heap.size):Below B w v:=
 ⟨h.os,h.tape,h.output,h.size,fun k hk=>h.block k (by omega) (by omega) (by omega)⟩

open Classical in

noncomputable def Rq (V v:Value):Option (DataW Unit×List MemPlace):=if v=V then some (.lit (.bool true),[])else if v=.agg #[.int .i64 0,.int .i64 0,.int .u64 0,.int .u64 0,.int .i64 0,.bool false,.bool false]then some (.lit (.bool false),[])else some (.lit (.int .i64 0),[])

theorem MF (V:Value):Rq V V=some (.lit (.bool true),[]):=by unfold Rq;rw[if_pos rfl]

theorem MO {V:Value}(h:V≠.agg #[.int .i64 0,.int .i64 0,.int .u64 0,.int .u64 0,.int .i64 0,.bool false,.bool false]):Rq V (.agg #[.int .i64 0,.int .i64 0,.int .u64 0,.int .u64 0,.int .i64 0,.bool false,.bool false])=some (.lit (.bool false),[]):=by
 unfold Rq;rw[if_neg (Ne.symm h),if_pos rfl]

theorem P7 {V v:Value}{ps:List MemPlace}(h:Rq V v=some (.lit (.bool true),ps)):v=V:=by
 unfold Rq at h;split at h
 . assumption
 . split at h<;>simp at h

theorem LB {v:World}{bm:Nat}{R R':Value->Option (DataW Unit×List MemPlace)}{D:DataW Unit}(h:v.ownsMap Tryz.prog 150 R bm 0 D):v.ownsMap Tryz.prog 150 R' bm 0 (.map []):=by
 obtain⟨es,clock,hb,F,hs,_⟩:=h;have e:es=#[]:=Array.eq_empty_of_size_eq_zero (Nat.le_zero.1 hs);subst e;exact⟨#[],clock,hb,⟨by simp,F.2,by simp⟩,Nat.le_refl _,rfl⟩

theorem GP (v:World)(bm:Nat)(h:v.ownsMap Tryz.prog 150 Rz bm 0 (.map []))(key val:Value)(hkey:∃kl,keyOf Tryz.prog 150 key=some kl)(hz:val≠.agg #[.int .i64 0,.int .i64 0,.int .u64 0,.int .u64 0,.int .i64 0,.bool false,.bool false]):
 ∃v',(Instr.mapUpdate 120 (.map (some bm)) key val).run Tryz.prog v=.ok () v'/\v.mapTurned v' bm/\∀u:World,u.heap[bm]? =v'.heap[bm]?->(Instr.lookup 120 (.map (some bm)) key true).run Tryz.prog u=.ok (.tuple #[val,.bool true]) u:=by
 obtain⟨kl,hkl⟩:=hkey;obtain⟨v',hrun,ho,ht⟩:=(LB (R':=Rq val) h).store xD Tryz.underlying120 (by unfold maxLen;omega) hkl (MF val)
 refine⟨v',hrun,ht,fun u hu=>?_⟩
 have ou:u.ownsMap Tryz.prog 150 (Rq val) bm 1 ((DataW.map []).put kl (.lit (.bool true))):=by
  obtain⟨es,clock,hb,r⟩:=ho;exact⟨es,clock,hu.trans hb,r⟩
 obtain⟨x,ps,hr,hR⟩:=ou.look_ok xD Tryz.underlying120 (NW u) (MO hz) hkl;have e1:((DataW.map []).put kl (.lit (.bool true)):DataW Unit).atKey kl (.lit (.bool false))=.lit (.bool true):=by simp[DataW.put,DataW.atKey,DataW.insert,WideAt.sameKey_self (xD.key hkl)]
 have e2:Maps.has ((DataW.map []).put kl (.lit (.bool true)):DataW Unit) kl=true:=by simp[Maps.has,DataW.put,DataW.insert,WideAt.sameKey_self (xD.key hkl)]
 rw[e1]at hR;rw[e2,P7 hR]at hr;exact hr

structure Full (v:World)(tb bm:Nat)(k W:Int)(V:Value):Prop where
 c0:v.cell? ⟨tb,0,none⟩=some (.int .i32 0)
 c2:v.cell? ⟨tb,2,none⟩=some (.map (some bm))
 f0:v.frozen? ⟨tb,0,none⟩=false
 ne:bm≠tb
 lt:tb<v.heap.size
 lb:bm<v.heap.size
 look:∀u:World,u.heap[bm]? =v.heap[bm]?->(Instr.lookup 120 (.map (some bm)) (.agg #[.int .i64 k,.int .i64 W]) true).run Tryz.prog u=.ok (.tuple #[V,.bool true]) u

theorem Full.below {v v':World}{tb bm:Nat}{k W:Int}{V:Value}(h:Full v tb bm k W V)(hb:Below v.heap.size v v'):Full v' tb bm k W V:=
 ⟨(hb.cell (p:=⟨tb,0,none⟩) h.lt).trans h.c0,(hb.cell (p:=⟨tb,2,none⟩) h.lt).trans h.c2,(hb.frozen (p:=⟨tb,0,none⟩) h.lt).trans h.f0,h.ne,Nat.lt_of_lt_of_le h.lt hb.size,Nat.lt_of_lt_of_le h.lb hb.size,fun u hu=>h.look u (hu.trans (hb.block bm h.lb))⟩

theorem Full.set {v:World}{tb bm:Nat}{k W:Int}{V:Value}(h:Full v tb bm k W V)(g j:Nat)(x:Value)(h1:g≠tb)(h2:g≠bm):Full (v.setCell ⟨g,j,none⟩ x) tb bm k W V:=
 ⟨(World.cell?_setCell_other v ⟨g,j,none⟩ ⟨tb,0,none⟩ x (fun e=>h1 (by injection e))).trans h.c0,(World.cell?_setCell_other v ⟨g,j,none⟩ ⟨tb,2,none⟩ x (fun e=>h1 (by injection e))).trans h.c2,by simp[h.f0],h.ne,by simpa using h.lt,by simpa using h.lb,fun u hu=>h.look u (hu.trans (Below.heap_setCell _ _ _ _ (Ne.symm h2)))⟩

theorem xV (v:World)(g bm:Nat)(h:bm≠g)(a b c d e f i:Value):(((((((v.setCell ⟨g,0,none⟩ (a)).setCell ⟨g,1,none⟩ (b)).setCell ⟨g,2,none⟩ (c)).setCell ⟨g,3,none⟩ (d)).setCell ⟨g,4,none⟩ (e)).setCell ⟨g,5,none⟩ (f)).setCell ⟨g,6,none⟩ (i)).heap[bm]? =v.heap[bm]?:=
 ((((((Below.heap_setCell _ _ _ _ h).trans (Below.heap_setCell _ _ _ _ h)).trans (Below.heap_setCell _ _ _ _ h)).trans (Below.heap_setCell _ _ _ _ h)).trans (Below.heap_setCell _ _ _ _ h)).trans (Below.heap_setCell _ _ _ _ h)).trans (Below.heap_setCell _ _ _ _ h)

theorem DR (tb bm:Nat)(k W E:Int)(T:Nat)(x:Bool)(w:World)(h:-5200<=k/\k<=5200/\1<=W/\W<=128)
 (c0:w.cell? ⟨tb,0,none⟩=some (.int .i32 0))(c2:w.cell? ⟨tb,2,none⟩=some (.map (some bm)))(f0:w.frozen? ⟨tb,0,none⟩=false)(hbt:bm≠tb)(hown:w.ownsMap Tryz.prog 150 Rz bm 0 (.map []))
 (lbm:bm<w.heap.size)
 (kT:∀v:World,Calls Tryz.prog 112 #[.int .i64 k,.int .i64 W] v fun e v'=>e=.returned (pwv k W T E x true)/\Below v.heap.size v v'):
 Calls Tryz.prog 80 #[.pointer (some ⟨tb,0,none⟩),.int .i64 k,.int .i64 W] w fun e w'=>e=.returned (pwv k W T E x true)/\T2 tb bm w w'/\Full w' tb bm k W (pwv k W T E x true):=by
 have hd:decide (-5200<=k/\k<=5200)=true:=decide_eq_true ⟨h.1,h.2.1⟩;have hwd:decide (1<=W/\W<=128)=true:=decide_eq_true ⟨h.2.2.1,h.2.2.2⟩;have hkey:=RV k W (WalkArith.wf_i64 (by omega)) (WalkArith.wf_i64 (by omega));have ltb:tb<w.heap.size:=World.block_lt_of_cell? w _ c0;unfold pwv at kT|-;have b0:Below w.heap.size w (w.alloc (.cells #[.int .i64 0,.int .i64 0,.int .u64 0,.int .u64 0,.int .i64 0,.bool false,.bool false] 80)):=(Below.refl _ _).alloc (Nat.le_refl _) _;have d0:=(b0.cell (p:=⟨tb,0,none⟩) ltb).trans c0;have e0:=(b0.frozen (p:=⟨tb,0,none⟩) ltb).trans f0;obtain⟨V,hV⟩:∃V,V=((w.setCell ⟨tb,0,none⟩ (.int .i32 1)).alloc (.cells #[.int .i64 0,.int .i64 0,.int .u64 0,.int .u64 0,.int .i64 0,.bool false,.bool false] 80)).alloc (.cells #[.int .i64 k,.int .i64 W] 150):=⟨_,rfl⟩;have g0:(w.setCell ⟨tb,0,none⟩ (.int .i32 1)).cell? ⟨tb,0,none⟩=some (.int .i32 1):=World.cell?_setCell_same w ⟨tb,0,none⟩ (.int .i32 1) c0;have g2:(w.setCell ⟨tb,0,none⟩ (.int .i32 1)).cell? ⟨tb,2,none⟩=some (.map (some bm)):=(World.cell?_setCell_other w ⟨tb,0,none⟩ ⟨tb,2,none⟩ _ (by simp)).trans c2;have gf:(w.setCell ⟨tb,0,none⟩ (.int .i32 1)).frozen? ⟨tb,0,none⟩=false:=by simp[f0]
 have hsz:(w.setCell ⟨tb,0,none⟩ (.int .i32 1)).heap.size=w.heap.size:=by simp
 have ownS:=hown.setCell (a:=⟨tb,0,none⟩) hbt (.int .i32 1);have bS:T2 tb bm w (w.setCell ⟨tb,0,none⟩ (.int .i32 1)):=(T2.refl _ _ w).set _ _ _ (.inl rfl);have bV1:Below (w.setCell ⟨tb,0,none⟩ (.int .i32 1)).heap.size (w.setCell ⟨tb,0,none⟩ (.int .i32 1)) V:=by rw[hV];exact((Below.refl _ _).alloc (Nat.le_refl _) _).alloc (by simp) _
 have ownV:V.ownsMap Tryz.prog 150 Rz bm 0 (.map []):=by rw[hV];exact(ownS.alloc _).alloc _
 have t0:=(bV1.cell (p:=⟨tb,0,none⟩) (by rw[hsz];exact ltb)).trans g0;have t2:=(bV1.cell (p:=⟨tb,2,none⟩) (by rw[hsz];exact ltb)).trans g2;have tf:=(bV1.frozen (p:=⟨tb,0,none⟩) (by rw[hsz];exact ltb)).trans gf
 have zR:Z7 V w.heap.size:=by
  have:=(zS (w.setCell ⟨tb,0,none⟩ (.int .i32 1))).al (.cells #[.int .i64 k,.int .i64 W] 150);rw[hsz]at this;rw[hV];exact this
 have k0:V.cell? ⟨w.heap.size+1,0,none⟩=some (.int .i64 k):=by rw[hV];simp[go_sem]
 have k1:V.cell? ⟨w.heap.size+1,1,none⟩=some (.int .i64 W):=by rw[hV];simp[go_sem]
 have sV:w.heap.size+2<=V.heap.size:=by rw[hV];simp
 have bV:T2 tb bm w V:=bS.below bV1 (by rw[hsz];exact Nat.le_refl _);clear g0 g2 gf ownS bS bV1 hsz
 go_enter_defers Tryz.func80,Tryz.ntmps80
 go_wp2_with fail;refine(jO k _).mono ?_;rw[hd];rintro e v1 ⟨rfl,rfl⟩;go_wp2_with fail;refine(pY W _).mono ?_;rw[hwd];rintro e v1 ⟨rfl,rfl⟩;go_wp2_with fail;refine(lock_free Tryz.muLib ⟨tb,0,none⟩ _ d0 e0).mono ?_;rintro e v2 ⟨rfl,rfl⟩;go_upto_region 6 with fail;rw[<-hV];clear hV d0 e0 b0 c0 c2 f0 hown hd hwd;have hL0:=sK V.drew bm (ownV.drew) (.agg #[.int .i64 k,.int .i64 W]) hkey;have hL1:=sK (V.alloc (.cells #[.int .i64 0,.int .i64 0,.int .u64 0,.int .u64 0,.int .i64 0,.bool false,.bool false] 80)).drew bm ((ownV.alloc _).drew) (.agg #[.int .i64 k,.int .i64 W]) hkey
 go_cut[8,9]from 32 to 41 (fun p q wx=>∃pb,p=.pointer (some ⟨pb,0,none⟩)/\q=.bool false/\V.heap.size<=pb/\Z7 wx pb/\Below V.heap.size V wx)
 case first=>
  have lk:w.heap.size+1<V.heap.size:=by omega
  have lt2:tb<V.heap.size:=by omega
  have KH:∀v,Below V.heap.size V v->(fun v=>v.cell? ⟨tb,2,none⟩=some (.map (some bm))/\v.cell? ⟨w.heap.size+1,0,none⟩=some (.int .i64 k)/\v.cell? ⟨w.heap.size+1,1,none⟩=some (.int .i64 W)) v:=fun v hv=>⟨(hv.cell lt2).trans t2,(hv.cell lk).trans k0,(hv.cell lk).trans k1⟩
  have A0:Below V.heap.size V V.drew:=(Below.refl _ _).drew;have A1:Below V.heap.size V (V.alloc (.cells #[.int .i64 0,.int .i64 0,.int .u64 0,.int .u64 0,.int .i64 0,.bool false,.bool false] 80)).drew:=((Below.refl _ _).alloc (Nat.le_refl _) _).drew
  go_region_held3 (fun v=>v.cell? ⟨tb,2,none⟩=some (.map (some bm))/\v.cell? ⟨w.heap.size+1,0,none⟩=some (.int .i64 k)/\v.cell? ⟨w.heap.size+1,1,none⟩=some (.int .i64 W)) (first|with_reducible exact KH _ A0|with_reducible exact KH _ A1) (fail)
  all_goals go_wp2_with fail
  all_goals go_meet
  all_goals exact⟨V.heap.size,rfl,rfl,Nat.le_refl _,(zS V).below (Below.refl _ _).drew,A1⟩
 case rest=>
  obtain⟨pb,rfl,rfl,hpb,zP,hbx⟩:=hcut
  rename World=>wx
  clear hL0 hL1;go_wp2_with fail;refine(kT _).mono ?_;rintro e v3 ⟨rfl,hb3⟩;clear kT;have zP3:=zP.below hb3;have b3:Below V.heap.size V v3:=aL hbx hb3;have zR3:=zR.below b3;have lk:w.heap.size+1<V.heap.size:=by omega
  have lt2:tb<V.heap.size:=by omega
  have u0:=(b3.cell (p:=⟨tb,0,none⟩) lt2).trans t0;have u2:=(b3.cell (p:=⟨tb,2,none⟩) lt2).trans t2;have uf:=(b3.frozen (p:=⟨tb,0,none⟩) lt2).trans tf;have m0:=(b3.cell (p:=⟨w.heap.size+1,0,none⟩) lk).trans k0;have m1:=(b3.cell (p:=⟨w.heap.size+1,1,none⟩) lk).trans k1;have own3:v3.ownsMap Tryz.prog 150 Rz bm 0 (.map []):=xQ ownV b3 (by omega);have B3:T2 tb bm w v3:=bV.below b3 (by omega);have hs3:V.heap.size<=v3.heap.size:=b3.size;clear zP hbx hb3 zR t0 t2 tf k0 k1 ownV bV b3;have npb:bm≠pb:=by omega
  have ntb:tb≠pb:=by omega
  have nkb:w.heap.size+1≠pb:=by omega
  have nrb:w.heap.size≠pb:=by omega
  obtain⟨X,hX⟩:∃X,X=(((((((v3.setCell ⟨pb,0,none⟩ (.int .i64 k)).setCell ⟨pb,1,none⟩ (.int .i64 W)).setCell ⟨pb,2,none⟩ (.int .u64 (M.hiN T:Int))).setCell ⟨pb,3,none⟩ (.int .u64 (M.loN T:Int))).setCell ⟨pb,4,none⟩ (.int .i64 E)).setCell ⟨pb,5,none⟩ (.bool x)).setCell ⟨pb,6,none⟩ (.bool true)):=⟨_,rfl⟩;obtain⟨hXc,hXf,hXs,hXo⟩:=O6 v3 pb (.int .i64 k) (.int .i64 W) (.int .u64 (M.hiN T:Int)) (.int .u64 (M.loN T:Int)) (.int .i64 E) (.bool x) (.bool true);rw[<-hX]at hXc hXf hXs;have X0:X.cell? ⟨pb,0,none⟩=some (.int .i64 k)/\X.cell? ⟨pb,1,none⟩=some (.int .i64 W)/\X.cell? ⟨pb,2,none⟩=some (.int .u64 (M.hiN T:Int))/\X.cell? ⟨pb,3,none⟩=some (.int .u64 (M.loN T:Int))/\X.cell? ⟨pb,4,none⟩=some (.int .i64 E)/\X.cell? ⟨pb,5,none⟩=some (.bool x)/\X.cell? ⟨pb,6,none⟩=some (.bool true):=by rw[hX];exact nF zP3 _ _ _ _ _ _ _
  have ownX:X.ownsMap Tryz.prog 150 Rz bm 0 (.map []):=by rw[hX];exact((((((own3.setCell (a:=⟨pb,0,none⟩) npb _).setCell (a:=⟨pb,1,none⟩) npb _).setCell (a:=⟨pb,2,none⟩) npb _).setCell (a:=⟨pb,3,none⟩) npb _).setCell (a:=⟨pb,4,none⟩) npb _).setCell (a:=⟨pb,5,none⟩) npb _).setCell (a:=⟨pb,6,none⟩) npb _
  obtain⟨v5,hU,hT5,hLk⟩:=GP X.drew bm ownX.drew (.agg #[.int .i64 k,.int .i64 W]) (.agg #[.int .i64 k,.int .i64 W,.int .u64 (M.hiN T:Int),.int .u64 (M.loN T:Int),.int .i64 E,.bool x,.bool true]) hkey (by simp);have HL:=hid hLk;clear hLk;have BX:T2 tb bm w X:=by rw[hX];exact B3.set7 pb _ _ _ _ _ _ _ (by omega)
  have B5:T2 tb bm w v5:=(BX.below (Below.refl X.heap.size X).drew BX.size).grown hT5.grown (fun k hk=>by cases hk;exact .inr (.inl rfl))
  obtain⟨z0,z1,z2,z3,z4,z5,z6,g0,g1,g2,g3,g4,g5,g6,gl⟩:=zP3;go_upto_region 9 with fail;rw[<-hX];clear z0 z1 z2 z3 z4 z5 z6;clear g0 g1 g2 g3 g4 g5 g6 own3 ownX;have c2:X.cell? ⟨tb,2,none⟩=some (.map (some bm)):=(hXc tb 2 ntb).trans u2;have c0:X.cell? ⟨tb,0,none⟩=some (.int .i32 1):=(hXc tb 0 ntb).trans u0;have cf:X.frozen? ⟨tb,0,none⟩=false:=(hXf tb 0 ntb).trans uf;have n0:X.cell? ⟨w.heap.size+1,0,none⟩=some (.int .i64 k):=(hXc _ 0 nkb).trans m0;have n1:X.cell? ⟨w.heap.size+1,1,none⟩=some (.int .i64 W):=(hXc _ 1 nkb).trans m1;have ltX:tb<X.heap.size:=by omega
  have lkX:w.heap.size+1<X.heap.size:=by omega
  have lrX:w.heap.size<X.heap.size:=by omega
  have lpX:pb<X.heap.size:=by omega
  have A0:Below X.heap.size X X.drew:=(Below.refl _ _).drew
  have tc:∀g o,g<X.heap.size->g≠bm->v5.cell? ⟨g,o,none⟩=X.cell? ⟨g,o,none⟩:=fun g o h1 h2=>(zA hT5 g o h1 h2).trans (A0.cell h1)
  have tf:∀g o,g<X.heap.size->v5.frozen? ⟨g,o,none⟩=X.frozen? ⟨g,o,none⟩:=fun g o h1=>(hT5.frozen _).trans (A0.frozen (p:=⟨g,o,none⟩) h1)
  obtain⟨x0,x1,x2,x3,x4,x5,x6⟩:=X0
  have K0:(fun v=>v.cell? ⟨tb,2,none⟩=some (.map (some bm))/\v.cell? ⟨w.heap.size+1,0,none⟩=some (.int .i64 k)/\v.cell? ⟨w.heap.size+1,1,none⟩=some (.int .i64 W)/\v.cell? ⟨pb,0,none⟩=some (.int .i64 k)/\v.cell? ⟨pb,1,none⟩=some (.int .i64 W)/\v.cell? ⟨pb,2,none⟩=some (.int .u64 (M.hiN T:Int))/\v.cell? ⟨pb,3,none⟩=some (.int .u64 (M.loN T:Int))/\v.cell? ⟨pb,4,none⟩=some (.int .i64 E)/\v.cell? ⟨pb,5,none⟩=some (.bool x)/\v.cell? ⟨pb,6,none⟩=some (.bool true)) X.drew:=⟨(A0.cell ltX).trans c2,(A0.cell lkX).trans n0,(A0.cell lkX).trans n1,(A0.cell lpX).trans x0,(A0.cell lpX).trans x1,(A0.cell lpX).trans x2,(A0.cell lpX).trans x3,(A0.cell lpX).trans x4,(A0.cell lpX).trans x5,(A0.cell lpX).trans x6⟩
  have K5:(fun v=>v.cell? ⟨tb,2,none⟩=some (.map (some bm))/\v.cell? ⟨w.heap.size+1,0,none⟩=some (.int .i64 k)/\v.cell? ⟨w.heap.size+1,1,none⟩=some (.int .i64 W)/\v.cell? ⟨pb,0,none⟩=some (.int .i64 k)/\v.cell? ⟨pb,1,none⟩=some (.int .i64 W)/\v.cell? ⟨pb,2,none⟩=some (.int .u64 (M.hiN T:Int))/\v.cell? ⟨pb,3,none⟩=some (.int .u64 (M.loN T:Int))/\v.cell? ⟨pb,4,none⟩=some (.int .i64 E)/\v.cell? ⟨pb,5,none⟩=some (.bool x)/\v.cell? ⟨pb,6,none⟩=some (.bool true)) v5:=⟨(tc tb 2 ltX (Ne.symm hbt)).trans c2,(tc _ 0 lkX (by omega)).trans n0,(tc _ 1 lkX (by omega)).trans n1,(tc pb 0 lpX (Ne.symm npb)).trans x0,(tc pb 1 lpX (Ne.symm npb)).trans x1,(tc pb 2 lpX (Ne.symm npb)).trans x2,(tc pb 3 lpX (Ne.symm npb)).trans x3,(tc pb 4 lpX (Ne.symm npb)).trans x4,(tc pb 5 lpX (Ne.symm npb)).trans x5,(tc pb 6 lpX (Ne.symm npb)).trans x6⟩
  obtain⟨r0,r1,r2,r3,r4,r5,r6,s0,s1,s2,s3,s4,s5,s6,sl⟩:=zR3;have zR5:Z7 v5 w.heap.size:=⟨((tc w.heap.size 0 lrX (by omega)).trans (hXc _ 0 nrb)).trans r0,((tc w.heap.size 1 lrX (by omega)).trans (hXc _ 1 nrb)).trans r1,((tc w.heap.size 2 lrX (by omega)).trans (hXc _ 2 nrb)).trans r2,((tc w.heap.size 3 lrX (by omega)).trans (hXc _ 3 nrb)).trans r3,((tc w.heap.size 4 lrX (by omega)).trans (hXc _ 4 nrb)).trans r4,((tc w.heap.size 5 lrX (by omega)).trans (hXc _ 5 nrb)).trans r5,((tc w.heap.size 6 lrX (by omega)).trans (hXc _ 6 nrb)).trans r6,((tf w.heap.size 0 lrX).trans (hXf _ 0 nrb)).trans s0,((tf w.heap.size 1 lrX).trans (hXf _ 1 nrb)).trans s1,((tf w.heap.size 2 lrX).trans (hXf _ 2 nrb)).trans s2,((tf w.heap.size 3 lrX).trans (hXf _ 3 nrb)).trans s3,((tf w.heap.size 4 lrX).trans (hXf _ 4 nrb)).trans s4,((tf w.heap.size 5 lrX).trans (hXf _ 5 nrb)).trans s5,((tf w.heap.size 6 lrX).trans (hXf _ 6 nrb)).trans s6,Nat.lt_of_lt_of_le (show w.heap.size<X.drew.heap.size from lrX) hT5.grown.size⟩;have q0:v5.cell? ⟨tb,0,none⟩=some (.int .i32 1):=(tc tb 0 ltX (Ne.symm hbt)).trans c0;have qf:v5.frozen? ⟨tb,0,none⟩=false:=(tf tb 0 ltX).trans cf;have w7:=nF zR5 (.int .i64 k) (.int .i64 W) (.int .u64 (M.hiN T:Int)) (.int .u64 (M.loN T:Int)) (.int .i64 E) (.bool x) (.bool true);obtain⟨hYc,hYf,hYs,hYo⟩:=O6 v5 w.heap.size (.int .i64 k) (.int .i64 W) (.int .u64 (M.hiN T:Int)) (.int .u64 (M.loN T:Int)) (.int .i64 E) (.bool x) (.bool true);have ntr:tb≠w.heap.size:=by omega
  have y0:=(hYc tb 0 ntr).trans q0;have y2:=(hYc tb 2 ntr).trans ((tc tb 2 ltX (Ne.symm hbt)).trans c2);have yb:=xV v5 w.heap.size bm (by omega) (.int .i64 k) (.int .i64 W) (.int .u64 (M.hiN T:Int)) (.int .u64 (M.loN T:Int)) (.int .i64 E) (.bool x) (.bool true);have yf:=(hYf tb 0 ntr).trans qf;have BY:=B5.set7 w.heap.size (.int .i64 k) (.int .i64 W) (.int .u64 (M.hiN T:Int)) (.int .u64 (M.loN T:Int)) (.int .i64 E) (.bool x) (.bool true) (.inr (.inr (Nat.le_refl _)));clear hYc hYf hYs hYo tc tf hT5 x0 x1 x2 x3 x4 x5 x6 c0 cf n0 n1 u0 u2 uf m0 m1 r0 r1 r2 r3 r4 r5 r6 s0 s1 s2 s3 s4 s5 s6 B5 BX hXc hXf hXs hXo;have HZ:=hid zR5;have H7:=hid w7;have HY:=hid y0;have HF:=hid yf;have HB:=hid BY;have HK:=hid K5;have HY2:=hid y2;have HYB:=hid yb;clear zR5 w7 y0 yf BY q0 qf c2 hX y2 yb
  go_region_held3 (fun v=>v.cell? ⟨tb,2,none⟩=some (.map (some bm))/\v.cell? ⟨w.heap.size+1,0,none⟩=some (.int .i64 k)/\v.cell? ⟨w.heap.size+1,1,none⟩=some (.int .i64 W)/\v.cell? ⟨pb,0,none⟩=some (.int .i64 k)/\v.cell? ⟨pb,1,none⟩=some (.int .i64 W)/\v.cell? ⟨pb,2,none⟩=some (.int .u64 (M.hiN T:Int))/\v.cell? ⟨pb,3,none⟩=some (.int .u64 (M.loN T:Int))/\v.cell? ⟨pb,4,none⟩=some (.int .i64 E)/\v.cell? ⟨pb,5,none⟩=some (.bool x)/\v.cell? ⟨pb,6,none⟩=some (.bool true)) (first|with_reducible exact K0|with_reducible exact K5) (fail)
  clear K0 K5 hU;obtain⟨o0,o1,o2,o3,o4,o5,o6,p0,p1,p2,p3,p4,p5,p6,pl⟩:=HZ.out;obtain⟨-,-,-,i0,i1,i2,i3,i4,i5,i6⟩:=HK.out;go_wp2_with fail;clear o0 o1 o2 o3 o4 o5 o6 p0 p1 p2 p3 p4 p5 p6 pl i0 i1 i2 i3 i4 i5 i6 HZ HK;have ntr2:tb≠w.heap.size:=by omega
  obtain⟨a0,a1,a2,a3,a4,a5,a6⟩:=H7.out;have a7:=HB.out;have a8:=HY.out;have a9:=HF.out;have a10:=HY2.out;have a11:=HYB.out;clear H7 HB HY HF HY2 HYB;generalize(((((((v5.setCell ⟨w.heap.size,0,none⟩ (.int .i64 k)).setCell ⟨w.heap.size,1,none⟩ (.int .i64 W)).setCell ⟨w.heap.size,2,none⟩ (.int .u64 (M.hiN T:Int))).setCell ⟨w.heap.size,3,none⟩ (.int .u64 (M.loN T:Int))).setCell ⟨w.heap.size,4,none⟩ (.int .i64 E)).setCell ⟨w.heap.size,5,none⟩ (.bool x)).setCell ⟨w.heap.size,6,none⟩ (.bool true))=Y at*;refine leaves_cons (f:= 111) (args:=#[.pointer (some ⟨tb,0,none⟩)]) (by simp) (by simp[go_sem]) ?_;refine(unlock_deferred Tryz.muLib ⟨tb,0,none⟩ .returning _ a8 a9).mono ?_;rintro e u' w'' ⟨rfl,rfl,rfl⟩
  have hne:∀j,(⟨tb,0,none⟩:Addr)≠⟨w.heap.size,j,none⟩:=fun j e=>ntr2 (by injection e)
  replace a0:=(World.cell?_setCell_other Y ⟨tb,0,none⟩ ⟨w.heap.size,0,none⟩ (.int .i32 0) (hne 0)).trans a0;replace a1:=(World.cell?_setCell_other Y ⟨tb,0,none⟩ ⟨w.heap.size,1,none⟩ (.int .i32 0) (hne 1)).trans a1;replace a2:=(World.cell?_setCell_other Y ⟨tb,0,none⟩ ⟨w.heap.size,2,none⟩ (.int .i32 0) (hne 2)).trans a2;replace a3:=(World.cell?_setCell_other Y ⟨tb,0,none⟩ ⟨w.heap.size,3,none⟩ (.int .i32 0) (hne 3)).trans a3;replace a4:=(World.cell?_setCell_other Y ⟨tb,0,none⟩ ⟨w.heap.size,4,none⟩ (.int .i32 0) (hne 4)).trans a4;replace a5:=(World.cell?_setCell_other Y ⟨tb,0,none⟩ ⟨w.heap.size,5,none⟩ (.int .i32 0) (hne 5)).trans a5;replace a6:=(World.cell?_setCell_other Y ⟨tb,0,none⟩ ⟨w.heap.size,6,none⟩ (.int .i32 0) (hne 6)).trans a6;replace a7:=a7.set tb 0 (.int .i32 0) (.inl rfl);have z0:=World.cell?_setCell_same Y ⟨tb,0,none⟩ (.int .i32 0) a8;have z2:=(World.cell?_setCell_other Y ⟨tb,0,none⟩ ⟨tb,2,none⟩ (.int .i32 0) (by simp)).trans a10;have zf:(Y.setCell ⟨tb,0,none⟩ (.int .i32 0)).frozen? ⟨tb,0,none⟩=false:=by simp[a9]
  have zb:(Y.setCell ⟨tb,0,none⟩ (.int .i32 0)).heap[bm]? =v5.heap[bm]?:=(Below.heap_setCell _ _ _ _ hbt).trans a11;generalize Y.setCell ⟨tb,0,none⟩ (.int .i32 0)=Z at*
  exact⟨.agg #[.int .i64 k,.int .i64 W,.int .u64 (M.hiN T:Int),.int .u64 (M.loN T:Int),.int .i64 E,.bool x,.bool true],by simp[results,Tryz.results80,go_sem,a0,a1,a2,a3,a4,a5,a6],rfl,a7,z0,z2,zf,hbt,by have:=a7.size;omega,by have:=a7.size;omega,fun u hu=>HL.out u (hu.trans zb)⟩

theorem F0 (tb bm:Nat)(k W E:Int)(T:Nat)(x:Bool)(w:World)(h:-5200<=k/\k<=5200/\1<=W/\W<=128)(hf:Full w tb bm k W (pwv k W T E x true)):
 Calls Tryz.prog 80 #[.pointer (some ⟨tb,0,none⟩),.int .i64 k,.int .i64 W] w fun e w'=>e=.returned (pwv k W T E x true)/\T2 tb bm w w'/\Full w' tb bm k W (pwv k W T E x true):=by
 have hd:decide (-5200<=k/\k<=5200)=true:=decide_eq_true ⟨h.1,h.2.1⟩;have hwd:decide (1<=W/\W<=128)=true:=decide_eq_true ⟨h.2.2.1,h.2.2.2⟩;obtain⟨c0,c2,f0,hbt,ltb,lbm,hLk⟩:=hf;unfold pwv at hLk|-;have HL:=hid hLk;clear hLk;have b0:Below w.heap.size w (w.alloc (.cells #[.int .i64 0,.int .i64 0,.int .u64 0,.int .u64 0,.int .i64 0,.bool false,.bool false] 80)):=(Below.refl _ _).alloc (Nat.le_refl _) _;have d0:=(b0.cell (p:=⟨tb,0,none⟩) ltb).trans c0;have e0:=(b0.frozen (p:=⟨tb,0,none⟩) ltb).trans f0;obtain⟨V,hV⟩:∃V,V=((w.setCell ⟨tb,0,none⟩ (.int .i32 1)).alloc (.cells #[.int .i64 0,.int .i64 0,.int .u64 0,.int .u64 0,.int .i64 0,.bool false,.bool false] 80)).alloc (.cells #[.int .i64 k,.int .i64 W] 150):=⟨_,rfl⟩;have g0:(w.setCell ⟨tb,0,none⟩ (.int .i32 1)).cell? ⟨tb,0,none⟩=some (.int .i32 1):=World.cell?_setCell_same w ⟨tb,0,none⟩ (.int .i32 1) c0;have g2:(w.setCell ⟨tb,0,none⟩ (.int .i32 1)).cell? ⟨tb,2,none⟩=some (.map (some bm)):=(World.cell?_setCell_other w ⟨tb,0,none⟩ ⟨tb,2,none⟩ _ (by simp)).trans c2;have gf:(w.setCell ⟨tb,0,none⟩ (.int .i32 1)).frozen? ⟨tb,0,none⟩=false:=by simp[f0]
 have hsz:(w.setCell ⟨tb,0,none⟩ (.int .i32 1)).heap.size=w.heap.size:=by simp
 have bS:T2 tb bm w (w.setCell ⟨tb,0,none⟩ (.int .i32 1)):=(T2.refl _ _ w).set _ _ _ (.inl rfl);have bV1:Below (w.setCell ⟨tb,0,none⟩ (.int .i32 1)).heap.size (w.setCell ⟨tb,0,none⟩ (.int .i32 1)) V:=by rw[hV];exact((Below.refl _ _).alloc (Nat.le_refl _) _).alloc (by simp) _
 have t0:=(bV1.cell (p:=⟨tb,0,none⟩) (by rw[hsz];exact ltb)).trans g0;have t2:=(bV1.cell (p:=⟨tb,2,none⟩) (by rw[hsz];exact ltb)).trans g2;have tf:=(bV1.frozen (p:=⟨tb,0,none⟩) (by rw[hsz];exact ltb)).trans gf
 have zR:Z7 V w.heap.size:=by
  have:=(zS (w.setCell ⟨tb,0,none⟩ (.int .i32 1))).al (.cells #[.int .i64 k,.int .i64 W] 150);rw[hsz]at this;rw[hV];exact this
 have Vb:V.heap[bm]? =w.heap[bm]?:=by
  rw[hV];exact((((Below.refl (w.setCell ⟨tb,0,none⟩ (.int .i32 1)).heap.size _).alloc (Nat.le_refl _) _).alloc (by simp) _).block bm (by rw[hsz];exact lbm)).trans (Below.heap_setCell _ _ _ _ hbt)
 have k0:V.cell? ⟨w.heap.size+1,0,none⟩=some (.int .i64 k):=by rw[hV];simp[go_sem]
 have k1:V.cell? ⟨w.heap.size+1,1,none⟩=some (.int .i64 W):=by rw[hV];simp[go_sem]
 have sV:w.heap.size+2<=V.heap.size:=by rw[hV];simp
 have bV:T2 tb bm w V:=bS.below bV1 (by rw[hsz];exact Nat.le_refl _);clear g0 g2 gf bS bV1 hsz
 go_enter_defers Tryz.func80,Tryz.ntmps80
 go_wp2_with fail;refine(jO k _).mono ?_;rw[hd];rintro e v1 ⟨rfl,rfl⟩;go_wp2_with fail;refine(pY W _).mono ?_;rw[hwd];rintro e v1 ⟨rfl,rfl⟩;go_wp2_with fail;refine(lock_free Tryz.muLib ⟨tb,0,none⟩ _ d0 e0).mono ?_;rintro e v2 ⟨rfl,rfl⟩;go_upto_region 6 with fail;rw[<-hV];clear hV d0 e0 b0 c0 c2 f0 hd hwd;have lV:bm<V.heap.size:=by omega
 have hL0:(Instr.lookup 120 (.map (some bm)) (.agg #[.int .i64 k,.int .i64 W]) true).run Tryz.prog V.drew=.ok (.tuple #[.agg #[.int .i64 k,.int .i64 W,.int .u64 (M.hiN T:Int),.int .u64 (M.loN T:Int),.int .i64 E,.bool x,.bool true],.bool true]) V.drew:=HL.out _ Vb;have hL1:(Instr.lookup 120 (.map (some bm)) (.agg #[.int .i64 k,.int .i64 W]) true).run Tryz.prog (V.alloc (.cells #[.int .i64 0,.int .i64 0,.int .u64 0,.int .u64 0,.int .i64 0,.bool false,.bool false] 80)).drew=.ok (.tuple #[.agg #[.int .i64 k,.int .i64 W,.int .u64 (M.hiN T:Int),.int .u64 (M.loN T:Int),.int .i64 E,.bool x,.bool true],.bool true]) (V.alloc (.cells #[.int .i64 0,.int .i64 0,.int .u64 0,.int .u64 0,.int .i64 0,.bool false,.bool false] 80)).drew:=HL.out _ ((((Below.refl _ _).alloc (Nat.le_refl _) _).block bm lV).trans Vb)
 go_cut[8,9]from 32 to 41 (fun p q wx=>∃pb,p=.pointer (some ⟨pb,0,none⟩)/\q=.bool true/\V.heap.size<=pb/\Cls wx pb #[.int .i64 k,.int .i64 W,.int .u64 (M.hiN T:Int),.int .u64 (M.loN T:Int),.int .i64 E,.bool x,.bool true] 80/\Below V.heap.size V wx)
 case first=>
  have lk:w.heap.size+1<V.heap.size:=by omega
  have lt2:tb<V.heap.size:=by omega
  have KH:∀v,Below V.heap.size V v->(fun v=>v.cell? ⟨tb,2,none⟩=some (.map (some bm))/\v.cell? ⟨w.heap.size+1,0,none⟩=some (.int .i64 k)/\v.cell? ⟨w.heap.size+1,1,none⟩=some (.int .i64 W)) v:=fun v hv=>⟨(hv.cell lt2).trans t2,(hv.cell lk).trans k0,(hv.cell lk).trans k1⟩
  have A0:Below V.heap.size V V.drew:=(Below.refl _ _).drew;have A1:Below V.heap.size V (V.alloc (.cells #[.int .i64 0,.int .i64 0,.int .u64 0,.int .u64 0,.int .i64 0,.bool false,.bool false] 80)).drew:=((Below.refl _ _).alloc (Nat.le_refl _) _).drew;have A2:Below V.heap.size V (V.alloc (.cells #[.int .i64 k,.int .i64 W,.int .u64 (M.hiN T:Int),.int .u64 (M.loN T:Int),.int .i64 E,.bool x,.bool true] 80)).drew:=((Below.refl _ _).alloc (Nat.le_refl _) _).drew
  go_region_held3 (fun v=>v.cell? ⟨tb,2,none⟩=some (.map (some bm))/\v.cell? ⟨w.heap.size+1,0,none⟩=some (.int .i64 k)/\v.cell? ⟨w.heap.size+1,1,none⟩=some (.int .i64 W)) (first|with_reducible exact KH _ A0|with_reducible exact KH _ A1|with_reducible exact KH _ A2) (fail)
  all_goals go_wp2_with fail
  all_goals go_meet
  all_goals exact⟨V.heap.size,rfl,rfl,Nat.le_refl _,(Cls.new V _ _).below (Below.refl _ _).drew,A2⟩
 case rest=>
  obtain⟨pb,rfl,rfl,hpb,cP,hbx⟩:=hcut
  rename World=>wx
  clear hL0 hL1;have zR3:=zR.below hbx;have lt2:tb<V.heap.size:=by omega
  have u0:=(hbx.cell (p:=⟨tb,0,none⟩) lt2).trans t0;have u2:=(hbx.cell (p:=⟨tb,2,none⟩) lt2).trans t2;have uf:=(hbx.frozen (p:=⟨tb,0,none⟩) lt2).trans tf;have B3:T2 tb bm w wx:=bV.below hbx (by omega);have wb:wx.heap[bm]? =w.heap[bm]?:=(hbx.block bm lV).trans Vb;have w7:=nF zR3 (.int .i64 k) (.int .i64 W) (.int .u64 (M.hiN T:Int)) (.int .u64 (M.loN T:Int)) (.int .i64 E) (.bool x) (.bool true);obtain⟨hYc,hYf,hYs,hYo⟩:=O6 wx w.heap.size (.int .i64 k) (.int .i64 W) (.int .u64 (M.hiN T:Int)) (.int .u64 (M.loN T:Int)) (.int .i64 E) (.bool x) (.bool true);have ntr:tb≠w.heap.size:=by omega
  have y0:=(hYc tb 0 ntr).trans u0;have y2:=(hYc tb 2 ntr).trans u2;have yf:=(hYf tb 0 ntr).trans uf;have yb:=(xV wx w.heap.size bm (by omega) (.int .i64 k) (.int .i64 W) (.int .u64 (M.hiN T:Int)) (.int .u64 (M.loN T:Int)) (.int .i64 E) (.bool x) (.bool true)).trans wb;have BY:=B3.set7 w.heap.size (.int .i64 k) (.int .i64 W) (.int .u64 (M.hiN T:Int)) (.int .u64 (M.loN T:Int)) (.int .i64 E) (.bool x) (.bool true) (.inr (.inr (Nat.le_refl _)));have H7:=hid w7;have HY:=hid y0;have HF:=hid yf;have HB:=hid BY;have HY2:=hid y2;have HYB:=hid yb;clear zR t0 t2 tf k0 k1 Vb bV hbx w7 hYc hYf hYs hYo y0 y2 yf yb BY wb B3 u0 u2 uf;obtain⟨o0,o1,o2,o3,o4,o5,o6,p0,p1,p2,p3,p4,p5,p6,pl⟩:=zR3;have i0:=cP.cell 0 rfl;have i1:=cP.cell 1 rfl;have i2:=cP.cell 2 rfl;have i3:=cP.cell 3 rfl;have i4:=cP.cell 4 rfl;have i5:=cP.cell 5 rfl;have i6:=cP.cell 6 rfl;go_wp2_with fail;clear o0 o1 o2 o3 o4 o5 o6 p0 p1 p2 p3 p4 p5 p6 pl i0 i1 i2 i3 i4 i5 i6;have ntr2:tb≠w.heap.size:=by omega
  obtain⟨a0,a1,a2,a3,a4,a5,a6⟩:=H7.out;have a7:=HB.out;have a8:=HY.out;have a9:=HF.out;have a10:=HY2.out;have a11:=HYB.out;clear H7 HB HY HF HY2 HYB;generalize(((((((wx.setCell ⟨w.heap.size,0,none⟩ (.int .i64 k)).setCell ⟨w.heap.size,1,none⟩ (.int .i64 W)).setCell ⟨w.heap.size,2,none⟩ (.int .u64 (M.hiN T:Int))).setCell ⟨w.heap.size,3,none⟩ (.int .u64 (M.loN T:Int))).setCell ⟨w.heap.size,4,none⟩ (.int .i64 E)).setCell ⟨w.heap.size,5,none⟩ (.bool x)).setCell ⟨w.heap.size,6,none⟩ (.bool true))=Y at*;refine leaves_cons (f:= 111) (args:=#[.pointer (some ⟨tb,0,none⟩)]) (by simp) (by simp[go_sem]) ?_;refine(unlock_deferred Tryz.muLib ⟨tb,0,none⟩ .returning _ a8 a9).mono ?_;rintro e u' w'' ⟨rfl,rfl,rfl⟩
  have hne:∀j,(⟨tb,0,none⟩:Addr)≠⟨w.heap.size,j,none⟩:=fun j e=>ntr2 (by injection e)
  replace a0:=(World.cell?_setCell_other Y ⟨tb,0,none⟩ ⟨w.heap.size,0,none⟩ (.int .i32 0) (hne 0)).trans a0;replace a1:=(World.cell?_setCell_other Y ⟨tb,0,none⟩ ⟨w.heap.size,1,none⟩ (.int .i32 0) (hne 1)).trans a1;replace a2:=(World.cell?_setCell_other Y ⟨tb,0,none⟩ ⟨w.heap.size,2,none⟩ (.int .i32 0) (hne 2)).trans a2;replace a3:=(World.cell?_setCell_other Y ⟨tb,0,none⟩ ⟨w.heap.size,3,none⟩ (.int .i32 0) (hne 3)).trans a3;replace a4:=(World.cell?_setCell_other Y ⟨tb,0,none⟩ ⟨w.heap.size,4,none⟩ (.int .i32 0) (hne 4)).trans a4;replace a5:=(World.cell?_setCell_other Y ⟨tb,0,none⟩ ⟨w.heap.size,5,none⟩ (.int .i32 0) (hne 5)).trans a5;replace a6:=(World.cell?_setCell_other Y ⟨tb,0,none⟩ ⟨w.heap.size,6,none⟩ (.int .i32 0) (hne 6)).trans a6;replace a7:=a7.set tb 0 (.int .i32 0) (.inl rfl);have z0:=World.cell?_setCell_same Y ⟨tb,0,none⟩ (.int .i32 0) a8;have z2:=(World.cell?_setCell_other Y ⟨tb,0,none⟩ ⟨tb,2,none⟩ (.int .i32 0) (by simp)).trans a10;have zf:(Y.setCell ⟨tb,0,none⟩ (.int .i32 0)).frozen? ⟨tb,0,none⟩=false:=by simp[a9]
  have zb:(Y.setCell ⟨tb,0,none⟩ (.int .i32 0)).heap[bm]? =w.heap[bm]?:=(Below.heap_setCell _ _ _ _ hbt).trans a11;generalize Y.setCell ⟨tb,0,none⟩ (.int .i32 0)=Z at*
  exact⟨.agg #[.int .i64 k,.int .i64 W,.int .u64 (M.hiN T:Int),.int .u64 (M.loN T:Int),.int .i64 E,.bool x,.bool true],by simp[results,Tryz.results80,go_sem,a0,a1,a2,a3,a4,a5,a6],rfl,a7,z0,z2,zf,hbt,by have:=a7.size;omega,by have:=a7.size;omega,fun u hu=>HL.out u (hu.trans zb)⟩

end Go.Proofs.YtfdgkleoaehjaaaGreatDoor
