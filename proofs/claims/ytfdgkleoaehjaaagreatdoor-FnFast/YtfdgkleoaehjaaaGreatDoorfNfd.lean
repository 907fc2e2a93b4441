import Derived.RangeFuncWrites
import Derived.Maps.AppendAt
import Derived.Maps.OwnIn
import Derived.Test.YtfdgkleoaehjaaaGreatDoorfTxt1b
import Derived.Test.YtfdgkleoaehjaaaGreatDoorfNfdM
set_option maxHeartbeats 4000000
set_option maxRecDepth 100000
namespace Go.Proofs.YtfdgkleoaehjaaaGreatDoor
open Go.RowKit Go.Shelf
attribute [local go_sem] Oper.semAt_some
set_option linter.unusedVariables false
set_option maxRecDepth 100000

def NfI (w:World)(Bx:Nat)(bs:List Nat)(C:Nat)(pre:List Nat)(W:World):Prop:=
 (Boxed W Bx 87 (.slice (some ⟨w.heap.size,0,none⟩) (L (pvs bs pre)).length C)/\
   W.ownsRow w.heap.size 25 1 (.slice (some ⟨w.heap.size,0,none⟩) (L (pvs bs pre)).length C) (L (pvs bs pre)).length (U (L (pvs bs pre)))/\Bx+1+1<W.heap.size)/\Below w.heap.size w W

theorem NfI.own (w:World)(Bx:Nat)(bs:List Nat)(C B:Nat)(hB:w.heap.size<=B):OwnFrom B (NfI w Bx bs C):=
 OwnFrom.and (Own.from (fun s a b row hs hg hr=>⟨boxed_own _ _ (fun _=>_) s a b row hs.1 hg hr,wN hs.2.1 hg hr,Nat.lt_of_lt_of_le hs.2.2 hg.size⟩) _) (ownFrom_below (Nat.le_refl _) hB)

theorem Kp2.grown {B:Nat}{a b:World}{row:Option Nat}(hg:a.grownBy b row)(hB:B+1<a.heap.size)(h1:some B≠row)(h2:some (B+1)≠row):Kp2 B a b:=
 ⟨hg.block _ (by omega) h1,hg.block _ hB h2⟩

theorem nZ (b off n c:Nat)(bs:List Nat)(w:World)(hl:bs.length=n)(h1:1<=n)(hn:n<=20000)(hcap:n<=c)(hcm:c<=9223372036854775807)(hd:M.Dig bs)(hr:RdB w (some ⟨b,off,none⟩) bs):
 Calls Tryz.prog 49 #[.slice (some ⟨b,off,none⟩) n c] w fun e w'=>Ret w w' e (L (M.dec bs)):=by
 refine(callsIn_wide (n:=3)).1 ?_;obtain⟨i0,hi,hz0,hz1,hz2⟩:=info_parts Tryz.infoU;obtain⟨C,hC⟩:∃C:Nat,C=n/19+1:=⟨_,rfl⟩;have hC':(n:Int)/19+1=(C:Int):=by omega
 have hC1:C<=2000:=by omega
 have HC:=hid hC;clear hC;refine callsIn_of_wp_marks Tryz.func49 rfl trivial ?_ rfl;simp only[Tryz.ntmps49,List.size_toArray,List.length_cons,List.length_nil,Nat.reduceAdd,Nat.reduceSub,Array.replicate_succ,Array.replicate_zero,List.push_toArray,List.append_toArray,List.nil_append,List.cons_append]
 gi_wp2_with (first
  |(gi_at_make;refine wpListIn_make_own _ rfl _ _ 87 rfl w.heap.size 25 i0 (.int .u64 0) 1 Tryz.underlying87 hi hz0 hz1 .i64 .i64 _ C rfl rfl (by first|rfl|exact hC'|omega) (by rw[hz2];omega) (by unfold maxLen;omega) (Nat.le_refl _) ?_;intro w1 hown1 hgrow1))
 refine⟨trivial,(KF 2 _ _ _ _).mono ?_⟩;rintro e w' ⟨rfl,rfl⟩;have hs1:=hgrow1.size
 have hlt1:w.heap.size<w1.heap.size:=by
  rcases hown1.2 with⟨he,h0⟩|⟨g,cap',cur,he,hb,hg,_⟩
  . simp at he
  . simp only[Value.slice.injEq,Option.some.injEq,Addr.mk.injEq]at he;obtain⟨⟨rfl,_⟩,_⟩:=he;exact(Array.getElem?_eq_some_iff.1 hg).1
 gi_wp2
 obtain⟨W0,hW0⟩:∃W0,((w1.alloc (.cells #[.slice (some ⟨w.heap.size,0,none⟩) 0 C] 87)).alloc (.cells #[.slice (some ⟨b,off,none⟩) n c] 22)).alloc (.cells #[.int .i64 19] 3)=W0:=⟨_,rfl⟩;have bN:Boxed W0 w1.heap.size 87 (.slice (some ⟨w.heap.size,0,none⟩) 0 C):=by rw[<-hW0];exact((Boxed.new w1 _ _).alloc _).alloc _
 have bT:Boxed W0 (w1.heap.size+1) 22 (.slice (some ⟨b,off,none⟩) n c):=by
  rw[<-hW0];have:=(Boxed.new (w1.alloc (.cells #[.slice (some ⟨w.heap.size,0,none⟩) 0 C] 87)) 22 (.slice (some ⟨b,off,none⟩) n c)).alloc (.cells #[.int .i64 19] 3)
  rwa[World.size_alloc]at this
 have bI:Boxed W0 (w1.heap.size+1+1) 3 (.int .i64 19):=by
  rw[<-hW0];have:=Boxed.new ((w1.alloc (.cells #[.slice (some ⟨w.heap.size,0,none⟩) 0 C] 87)).alloc (.cells #[.slice (some ⟨b,off,none⟩) n c] 22)) 3 (.int .i64 19)
  rwa[World.size_alloc,World.size_alloc]at this
 have hB1:Below w.heap.size w w1:=j6 hgrow1 (by simp)
 have hB0:Below w.heap.size w W0:=by
  rw[<-hW0];exact((hB1.alloc hB1.size _).alloc (by simp;omega) _).alloc (by simp;omega) _
 have hO0:W0.ownsRow w.heap.size 25 1 (.slice (some ⟨w.heap.size,0,none⟩) 0 C) 0 []:=by
  rw[<-hW0];exact((hown1.alloc _).alloc _).alloc _
 rw[hW0];have hsz:w1.heap.size+1+1<W0.heap.size:=bI.lt;clear hgrow1 hown1 hW0;generalize w1.heap.size=Bx at*;have hB0':=hB0
 refine wpIn_rangeFunc_ownG rfl (by omega) (gf:= 125) (lb:=#[.pointer (some ⟨Bx+1,0,none⟩),.pointer (some ⟨Bx+1+1,0,none⟩)]) rfl trivial (enters_of Tryz.func125 (by kernel_rfl) rfl)
  (yH 2 (by omega) (Bx+1) b off n c hn hcap hcm W0 hsz bT.cell bI.cell) Kp2.t
  (fun W l o o' hl' ho _ _=>⟨World.putObj_heap_other (by omega),World.putObj_heap_other (by omega)⟩) (Below.refl _ _) (fun _=>rfl)
  (NfI w Bx bs C) (fun _ _ _=>False) (NfI.own w Bx bs C _ hB0.size) (fun _ _ _ _ _ hs _ _=>hs)
  ⟨⟨bN,hO0,hsz⟩,hB0⟩
  (fun x=>{ tmps:=#[.slice (some ⟨b,off,none⟩) n c,undef,.slice none 0 0,.pointer (some ⟨Bx,0,none⟩),chv b off n x,undef,undef,undef,undef,undef,.slice (some ⟨b,off,none⟩) n c,.int .i64 (n:Int),.int .i64 ((n:Int)/19),.int .i64 (C:Int),.slice (some ⟨w.heap.size,0,none⟩) 0 C,.slice (some ⟨b,off,none⟩) n c,.func (.func 125) #[] #[.pointer (some ⟨Bx+1,0,none⟩),.pointer (some ⟨Bx+1+1,0,none⟩)],chv b off n x,undef,undef,undef,undef,undef,undef,undef,undef,undef,undef,undef,undef,undef,undef,undef,undef,undef,undef,undef,undef,undef,undef,undef,undef,undef,undef],defers:=[] }) ?assign ?mU ?done ?stop
 case assign=>
  intro l x W K hK
  gi_wp2
  exact hK
 case mU=>
  rintro l pre x W ⟨⟨hbx,hrow,hsx⟩,hB⟩ hlen;have hrd:=hr.below hB;obtain⟨m,hm⟩:∃m,m=chn n x:=⟨_,rfl⟩;have hm1:m<=19:=by rw[hm];unfold chn;omega
  have hm2:∀t,t<m->19*x+t<n:=fun t ht=>by rw[hm]at ht;unfold chn at ht;omega
  simp only[chv,<-hm]
  have hcl:∀t,t<m->W.cell? ⟨b,off+19*x+t,none⟩=some (.int .u8 ((bs.getD (19*x+t) 0:Nat):Int)):=fun t ht=>by
   obtain⟨b',off',e',hc'⟩:=hrd.2 (by omega);simp only[Option.some.injEq,Addr.mk.injEq]at e';obtain⟨rfl,rfl,_⟩:=e';have:=hc' (19*x+t) (by have:=hm2 t ht;omega)
   rwa[<-Nat.add_assoc]at this
  have HM:=hid hm;have HM2:=hid hm2;have HCL:=hid hcl;clear hm hm2 hcl hrd;have HR:=hid hrow;have HBX:=hid hbx;have HB:=hid hB;clear hrow hbx hB hO0 bN bT bI hr
  gi_wp2
  gi_loopw [5,6,20] (fun sc gr i wr=>∃t:Nat,t<=m/\i=.int .i64 (t:Int)/\sc=.int .u64 ((10^t:Nat):Int)/\gr=.int .u64 ((M.dec (M.seg bs (19*x) t):Nat):Int)/\wr=W) (fun _ _ i _=>19-(intOf i).toNat)
  case atStart=>exact⟨0,by omega,rfl,by simp,by simp[M.seg,M.dec],rfl⟩
  case round=>
   obtain⟨t,ht,rfl,rfl,rfl,rfl⟩:=hrel
   by_cases hlt:t<m
   . have hlt':(t:Int)<(m:Int):=by omega
     have hck:=HCL.out t hlt;have hdg:=hd.get (19*x+t) (by rw[hl];exact HM2.out t hlt);have hds:=M.nU bs (19*x) t (by rw[hl];exact HM2.out t hlt);have hdl:=nC bs hd (19*x) t;have hp:10^t<=10^18:=Nat.pow_le_pow_right (by omega) (by omega);have hps:10^(t+1)=10^t*10:=Nat.pow_succ _ _;obtain⟨q,hq⟩:∃q:Nat,q=10^t:=⟨_,rfl⟩;obtain⟨y,hy⟩:∃y:Nat,y=M.dec (M.seg bs (19*x) t):=⟨_,rfl⟩;obtain⟨z,hz⟩:∃z:Nat,z=bs.getD (19*x+t) 0:=⟨_,rfl⟩;rw[<-hz]at hck hdg hds;rw[<-hy]at hds hdl;rw[<-hq]at hps hp hdl;rw[<-hq,<-hy];have s1:IntKind.u64.wrap ((q:Int)*10)=(q:Int)*10:=by rw[IntKind.wrap_u64];omega
     have s2:IntKind.u64.wrap ((y:Int)*10)=(y:Int)*10:=by rw[IntKind.wrap_u64];omega
     have s3:IntKind.u8.wrap ((z:Int)-48)=(z:Int)-48:=by simp only[IntKind.wrap_u8];omega
     have s4:IntKind.u64.wrap ((z:Int)-48)=(z:Int)-48:=by rw[IntKind.wrap_u64];omega
     have s5:IntKind.u64.wrap ((y:Int)*10+((z:Int)-48))=(y:Int)*10+((z:Int)-48):=by rw[IntKind.wrap_u64];omega
     have HQ:=hid hq;have HY:=hid hy;have HZ:=hid hz;have HDS:=hid hds;have HPS:=hid hps;clear hq hy hz hds hps
     gi_wp2
     go_roundw
     case rel=>
      refine⟨t+1,by omega,by go_num,?_,?_,by first|rfl|trivial⟩
      . rw[HPS.out];go_num
      . rw[HDS.out];congr 1;omega
     case measure=>simp[intOf];omega
   . have e:t=m:=by omega
     subst e;have hlt':¬(t:Int)<(t:Int):=by omega
     have c1:=HBX.out.cell;have hv1:=IG bs hd pre;have hv2:=IG bs hd (pre++[x]);have hst:=sD bs pre x;rw[hl,<-HM.out]at hst;have hexl:=nC bs hd (19*x) t;have hp19:10^t<=10^19:=Nat.pow_le_pow_right (by omega) hm1;have hf0:0<10^t:=Nat.pow_pos (by omega);have hL1:=CQ _ _ hv1;have hL2:=CQ _ _ hv2;rw[List.length_append,List.length_singleton]at hL2;obtain⟨rest,hP,hrl,hgb,hNc,hCm⟩:=BlkP.of_own HR.out;have hfz:=gP (pvs bs pre);have hC2:pre.length+1<=C:=by have:=HC.out;omega
     obtain⟨v2,hv2e⟩:∃v2,v2=pvs bs (pre++[x]):=⟨_,rfl⟩;rw[<-hv2e]at hst hL2;have HV2:=hid hv2e;clear hv2e;have kT:=AS (pvs bs pre) (10^t) (M.dec (M.seg bs (19*x) t));generalize pvs bs pre=v at*;generalize M.dec (M.seg bs (19*x) t)=ex at*;have e10:(10:Int)^t=((10^t:Nat):Int):=by simp
     generalize hf:(10^t:Nat)=f at*
     try rw[e10]
     have kC:=fun(v0:World)(hP:BlkP v0 w.heap.size (L v) rest)=>qN w.heap.size (L v).length C rest (some ⟨w.heap.size,0,none⟩) f ex (L v) v0 (fun _=>rfl) hP hfz (Nat.le_refl _) (by omega) (by omega) (by omega)
     have HST:=hid hst;have HT:=hid kT;clear hst kT hv1 hv2 hp19 hf HCL HM2 e10
     gi_wp2
     refine⟨trivial,(CallsIn.inRound l (callsIn_wide.2 (kC _ hP))).mono ?_⟩;rintro e W3 ⟨cc,cur,rfl,hg3,hcc,hP3,hW3,hval⟩;rw[M.qU cur _ hW3.len,M.qU (L v) _ rfl,V_L]at hval;obtain⟨hT0,hT1⟩:=HT.out cc cur hW3.len hW3.lt hcc hf0 hval;rw[Nat.mul_comm,<-HST.out]at hT0 hT1;have bx3:Boxed W3 Bx 87 (.slice (some ⟨w.heap.size,0,none⟩) (L v).length C):=HBX.out.kept hg3 (by intro e;injection e;omega)
     have B3:Below w.heap.size w W3:=HB.out.grown hg3 HB.out.size (fun k hk=>by cases hk;exact Nat.le_refl _)
     have K3:Kp2 (Bx+1) wr W3:=by
      exact⟨hg3.block _ (by omega) (by intro e;injection e;omega),hg3.block _ (by omega) (by intro e;injection e;omega)⟩
     have own3:W3.ownsRow w.heap.size 25 1 (.slice (some ⟨w.heap.size,0,none⟩) (L v).length C) (L v).length (U cur):=hP3.own (Nat.le_refl _) hW3.len hrl hCm;have sx3:=Nat.lt_of_lt_of_le hsx hg3.size
     by_cases hc0:cc=0
     . subst hc0;have hT:=hT0 rfl;have hc0':¬(0:Int)<((0:Nat):Int):=by omega
       gi_wp2
       refine⟨KeepsFrom.of_grownBy hg3 (fun j e=>by cases e;omega),K3,⟨⟨?_,?_,sx3⟩,B3⟩⟩
       . rw[<-HV2.out,<-hT,hW3.len];exact bx3
       . rw[<-HV2.out,<-hT,hW3.len];exact own3
     . have hT:=hT1 hc0;have hc0':(0:Int)<(cc:Int):=by omega
       have c3:=bx3.cell;have hrm:(L v).length+1<=C:=by omega
       have hnew:∀j u,(U [cc])[j]? =some u->(W3.alloc (.cells #[.int .u64 (cc:Int)] 25)).cell? ((⟨W3.heap.size,0,none⟩:Addr).add j)=some u:=by
        intro j u hj
        match j,hj with
        |0,hj=>simp[U]at hj;subst hj;simp[Addr.add]
       gi_wp2_with (gi_at_builtin;refine wpListIn_append_fits _ rfl _ _ 87 rfl w.heap.size 25 i0 1 Tryz.underlying87 hi hz1 w.heap.size (L v).length C (U cur) rfl (own3.alloc _) ⟨W3.heap.size,0,none⟩ 1 1 (U [cc]) rfl rfl hnew (i7 _) hrm ?_;intro w4 hown4 hgrow4;have bx4:Boxed w4 Bx 87 (.slice (some ⟨w.heap.size,0,none⟩) (L v).length C):=(bx3.alloc _).kept hgrow4 (by intro e;injection e;omega);have c4:=bx4.cell;have f4:=bx4.frozen)
       have hlen2:(L v2).length=(L v).length+1:=by rw[<-hT,List.length_append,hW3.len];rfl
       have z4:W3.heap.size+1<=w4.heap.size:=by have:=hgrow4.size;simpa using this
       have kk:Kp2 (Bx+1) wr (w4.setCell ⟨Bx,0,none⟩ (.slice (some ⟨w.heap.size,0,none⟩) ((L v).length+1) C)):=
        ((K3.t (Kp2.grown (World.grownBy_alloc W3 _ none) (by omega) (by simp) (by simp))).t (Kp2.grown hgrow4 (by simp;omega) (by intro e;injection e;omega) (by intro e;injection e;omega))).t (Kp2.grown (aD w4 Bx 0 _) (by omega) (by intro e;injection e;omega) (by intro e;injection e;omega))
       refine⟨((((KeepsFrom.of_grownBy hg3 (fun j e=>by cases e;omega)).trans ((KeepsOthers.alloc _ _).from _)).trans (KeepsFrom.of_grownBy hgrow4 (fun j e=>by cases e;omega))).trans ((KeepsOthers.setCell _ _ _).from _)),kk,⟨⟨?_,?_,by simp;omega⟩,?_⟩⟩
       . rw[<-HV2.out,hlen2];exact bx4.set _
       . rw[<-HV2.out,hlen2,<-hT,dH];exact ownsRow_setCell_other hown4 (by simp[Value.ownBlock];omega) _
       . exact(((B3.alloc B3.size _).grown hgrow4 (by have:=B3.size;simp;omega) (fun k hk=>by cases hk;exact Nat.le_refl _)).setCell (p:=⟨Bx,0,none⟩) (by simp only;omega) _)
 case done=>
  rintro D ys W hD rfl ⟨⟨hbx,hrow,hsx⟩,hB⟩ hK;rw[<-hl,MK]at hbx hrow;have c1:=hbx.cell
  gi_wp2
  refine⟨by simp,.inl ⟨_,_,rfl,run_takeDeferred hK,?_⟩⟩;have hB5:=hB.trans (belowK_b (w:=w) (Nat.le_refl _) W D _ (.deferred none) (by have:=hB0.size;omega) hK rfl rfl);exact⟨_,results_tmp rfl _ _ _,some ⟨w.heap.size,0,none⟩,C,rfl,ownsRow_putObj hrow _ hK rfl,hB5⟩
 case stop=>
  rintro D cc pre W _ _ h _;exact h.elim

end Go.Proofs.YtfdgkleoaehjaaaGreatDoor
