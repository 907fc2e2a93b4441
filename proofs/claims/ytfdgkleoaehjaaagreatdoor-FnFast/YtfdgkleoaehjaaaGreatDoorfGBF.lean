import Derived.Test.YtfdgkleoaehjaaaGreatDoorfGBE
set_option maxHeartbeats 16000000
set_option maxRecDepth 100000
namespace Go.Proofs.YtfdgkleoaehjaaaGreatDoor
open Go.RowKit
set_option linter.unusedVariables false
set_option maxRecDepth 100000

structure NJ (v w0:World)(cs:List (Nat×Array Value×TypeId))(l:List (Option Addr×Nat)):Prop where
 rd:∀p∈l,Rd v p.1 (D p.2)
 cl:∀c∈cs,Cls v c.1 c.2.1 c.2.2
 b0:Below w0.heap.size w0 v

theorem NJ.below {v w0 v':World}{cs:List (Nat×Array Value×TypeId)}{l:List (Option Addr×Nat)}(h:NJ v w0 cs l)(hb:Below v.heap.size v v'):NJ v' w0 cs l:=⟨fun p hp=>(h.rd p hp).below hb,fun c hc=>(h.cl c hc).below hb,h.b0.trans (hb.mono h.b0.size)⟩

theorem NJ.own {v w0 v':World}{cs:List (Nat×Array Value×TypeId)}{l:List (Option Addr×Nat)}(h:NJ v w0 cs l){a:Option Addr}{N c:Nat}(o:v'.ownsRow v.heap.size 25 1 (.slice a (D N).length c) (D N).length (U (D N)))(hb:Below v.heap.size v v'):NJ v' w0 cs ((a,N)::l):=
 ⟨fun p hp=>by rcases List.mem_cons.1 hp with rfl|hp;exact Rd.own o;exact(h.below hb).rd p hp,(h.below hb).cl,(h.below hb).b0⟩

theorem NJ.sub {v w0:World}{cs:List (Nat×Array Value×TypeId)}{l m:List (Option Addr×Nat)}(h:NJ v w0 cs l)(hm:∀p∈m,p∈l):NJ v w0 cs m:=⟨fun p hp=>h.rd p (hm p hp),h.cl,h.b0⟩

theorem vJ (s:Nat)(w:World)(hs:s<=100000):
 Calls Tryz.prog 43 #[.int .i64 (s:Int)] w fun e w'=>Ret w w' e (D (2^s)):=by
 go_enter Tryz.func43,Tryz.ntmps43;go_wp2_with fail;refine(aU 1 _ (by omega)).mono ?_;rintro e v ⟨a,c,rfl,ho,hb⟩;have k:=aN a _ c s 1 v rfl (by have:=bF ho;have:(D 1).length<=1:=aE 1 1 1 (by omega) (by omega);omega) hs (Rd.own ho);rw[Nat.one_mul]at k;go_wp2_with fail;refine k.mono ?_;rintro e v2 ⟨a2,c2,rfl,ho2,hb2⟩;have B:=hid (And.intro (aM ho2 hb.size) (hb.trans (hb2.mono hb.size)));clear ho2 hb2 k ho hb;go_wp2_with fail;go_ret;exact⟨_,_,rfl,B.out.1,B.out.2⟩

theorem KL (f:Int)(T:M.Pt)(F:M.Fm)(C:Nat)(w:World)(hs1:1<=T.s)(hs:T.s<2^128)(hq1:-16700<=T.q)(hq2:T.q<=16700)(hp1:2<=F.p)(hp2:F.p<=113)(hm:F.emax<=20000)(hC:C=2^(2-T.q).toNat)
 (kE:∀v:World,Calls Tryz.prog 9 #[.int .i64 f] v fun e w'=>e=.returned (dv F)/\Below v.heap.size v w'):
 Calls Tryz.prog 119 #[.int .i64 f,pv T] w fun e w'=>∃A B,(1<=A/\1<=B)/\(D A).length<=1500/\(D B).length<=1500/\Sp3 w w' e A B C:=by
 obtain⟨cls,tn,ts,tq⟩:=T;simp only[dv,pv]at*;have hp1':(2:Int)<=(F.p:Int):=by omega
 have hp2':(F.p:Int)<=113:=by omega
 have hm1:-20000<=1-(F.emax:Int):=by omega
 have hm2:1-(F.emax:Int)<=1:=by omega
 generalize 1-(F.emax:Int)=e1 at*;generalize(F.emax:Int)=e2 at*;generalize(F.wd:Int)=e3 at*;generalize(F.e:Int)=e4 at*;generalize F.x=e5 at*;generalize he0:(F.p:Int)=e0 at*;have HE0:=hid he0;clear he0 hm;obtain⟨P,hP⟩:∃P:Array Value,P=#[.int .i64 cls,.bool tn,.int .u64 (M.hiN ts:Int),.int .u64 (M.loN ts:Int),.int .i64 tq]:=⟨_,rfl⟩;obtain⟨Q,hQ⟩:∃P:Array Value,P=#[.int .i64 e0,.int .i64 e1,.int .i64 e2,.int .i64 e3,.int .i64 e4,.bool e5]:=⟨_,rfl⟩;obtain⟨v0,hv0⟩:∃v,v=w.alloc (.cells P 67):=⟨_,rfl⟩;have b0:Below w.heap.size w v0:=by rw[hv0];exact(Below.refl _ _).alloc (Nat.le_refl _) _
 have c0:Cls v0 w.heap.size P 67:=by rw[hv0];exact Cls.new _ _ _
 have HP:=hid hP;have HQ:=hid hQ;have HC:=hid hC;obtain⟨FO,hFO⟩:∃x,ts*2^2=x:=⟨_,rfl⟩;have fo1:4<=FO:=by rw[<-hFO];omega
 have fo2:FO<2^130:=by rw[<-hFO];omega
 have lf:(D FO).length<=5:=aE FO 130 5 fo2 (by omega);have lh:(D (FO+2)).length<=5:=aE _ 131 5 (by omega) (by omega);have ls:(D ts).length<=4:=aE _ 128 4 hs (by omega);have HFO:=hid hFO;have HF2:=hid fo2
 have k1:=hid (fun v:World=>aU 1 v (by omega))
 have k2:=hid (fun v:World=>aU 2 v (by omega))
 have l1:(D 1).length<=1:=aE 1 1 1 (by omega) (by omega);have l2:(D 2).length<=1:=aE 2 2 1 (by omega) (by omega);rw[hP]at hv0;clear hP hQ hC hFO fo2;go_enter Tryz.func119,Tryz.ntmps119;go_upto_region 1 with fail;rw[<-hv0];clear hv0;go_wp2_with fail;refine(kE _).mono ?_;rintro e v1 ⟨rfl,hb⟩;obtain⟨v2,hv2⟩:∃v,v=v1.alloc (.cells Q 37):=⟨_,rfl⟩;have b2:Below v1.heap.size v1 v2:=by rw[hv2];exact(Below.refl _ _).alloc (Nat.le_refl _) _
 have c2:Cls v2 v1.heap.size Q 37:=by rw[hv2];exact Cls.new _ _ _
 have J:=hid (show NJ v2 w [(w.heap.size,P,67),(v1.heap.size,Q,37)] []from⟨fun p hp=>(by cases hp),fun c hc=>by
  simp at hc
  rcases hc with rfl|rfl
  . exact(c0.below hb).below b2
  . exact c2,(b0.trans (hb.mono b0.size)).trans (b2.mono (Nat.le_trans b0.size hb.size))⟩)
 rw[HQ.out]at hv2;clear hb b0 c0 b2 c2 kE;go_upto_region 2 with fail;rw[<-hv2];clear hv2;generalize v1.heap.size=gd at*
 have CP:=hid (fun(v:World)(l:List (Option Addr×Nat))(h:NJ v w [(w.heap.size,P,67),(gd,Q,37)] l)=>show Cls v w.heap.size #[.int .i64 cls,.bool tn,.int .u64 (M.hiN ts:Int),.int .u64 (M.loN ts:Int),.int .i64 tq] 67 from by have:=h.cl (w.heap.size,P,67) (by simp);rw[HP.out]at this;exact this)
 have CD:=hid (fun(v:World)(l:List (Option Addr×Nat))(h:NJ v w [(w.heap.size,P,67),(gd,Q,37)] l)=>show Cls v gd #[.int .i64 e0,.int .i64 e1,.int .i64 e2,.int .i64 e3,.int .i64 e4,.bool e5] 37 from by have:=h.cl (gd,Q,37) (by simp);rw[HQ.out]at this;exact this)
 have p2:=(CP.out _ _ J.out).cell 2 rfl;have p3:=(CP.out _ _ J.out).cell 3 rfl;go_wp2_with fail;refine(gF ts hs _).mono ?_;rintro e v3 ⟨sa,sc,rfl,o,hb⟩;have J:=hid (J.out.own o hb);clear o hb p2 p3;go_wp2_with fail;refine(aN sa _ sc 2 ts _ rfl (by omega) (by omega) (J.out.rd (sa,ts) (by simp))).mono ?_;rw[HFO.out];rintro e v4 ⟨fa,fc,rfl,o,hb⟩;have J:=hid (J.out.own o hb);clear o hb;go_wp2_with fail;refine(k2.out _).mono ?_;rintro e v5 ⟨oa,oc,rfl,o,hb⟩;have J:=hid (J.out.own o hb);clear o hb;go_wp2_with fail;refine(cJ fa oa _ _ fc oc FO 2 _ rfl rfl (by omega) (by omega) (J.out.rd (fa,FO) (by simp)) (J.out.rd (oa,2) (by simp))).mono ?_;rintro e v6 ⟨ha,hc,rfl,o,hb⟩;have J:=hid (J.out.own o hb);clear o hb;go_wp2_with fail;refine(k2.out _).mono ?_;rintro e v7 ⟨oa2,oc2,rfl,o,hb⟩;have J:=hid (J.out.own o hb);clear o hb;go_wp2_with fail;refine(gU fa oa2 _ _ fc oc2 FO 2 _ rfl rfl (by omega) (by omega) (J.out.rd (fa,FO) (by simp)) (J.out.rd (oa2,2) (by simp))).mono ?_;rintro e v8 ⟨la,lc,rfl,o,hb⟩;have J:=hid ((J.out.own o hb).sub (m:=[(la,FO-2),(ha,FO+2),(fa,FO)]) (by simp));clear o hb;go_upto_region 5 with fail
 go_cut[48] (fun z wx=>(∃b:Bool,z=.bool b)/\NJ wx w [(w.heap.size,P,67),(gd,Q,37)] [(la,FO-2),(ha,FO+2),(fa,FO)])
 case first=>
  as_aux_lemma=>
  have p0:=(CP.out _ _ J.out).cell 0 rfl
  by_cases hc3:cls=3
  . subst hc3;have A0:Below v8.heap.size v8 v8.drew:=(Below.refl _ _).drew
    have KB:=hid (fun v (hv:Below v8.heap.size v8 v)=>show(fun v=>v.cell? ⟨gd,0,none⟩=some (.int .i64 e0)/\v.cell? ⟨gd,1,none⟩=some (.int .i64 e1)/\v.cell? ⟨w.heap.size,0,none⟩=some (.int .i64 3)/\v.cell? ⟨w.heap.size,2,none⟩=some (.int .u64 (M.hiN ts:Int))/\v.cell? ⟨w.heap.size,3,none⟩=some (.int .u64 (M.loN ts:Int))/\v.cell? ⟨w.heap.size,4,none⟩=some (.int .i64 tq)) v from⟨(CD.out _ _ (J.out.below hv)).cell 0 rfl,(CD.out _ _ (J.out.below hv)).cell 1 rfl,(CP.out _ _ (J.out.below hv)).cell 0 rfl,(CP.out _ _ (J.out.below hv)).cell 2 rfl,(CP.out _ _ (J.out.below hv)).cell 3 rfl,(CP.out _ _ (J.out.below hv)).cell 4 rfl⟩)
    have wp:IntKind.i64.wrap (e0-1)=e0-1:=by simp only[IntKind.wrap_i64];omega
    have w1:IntKind.i64.wrap (e1-e0)=e1-e0:=by simp only[IntKind.wrap_i64];omega
    have w2:IntKind.i64.wrap (e1-e0+1)=e1-e0+1:=by simp only[IntKind.wrap_i64];omega
    obtain⟨LE,hLE⟩:∃x,2^(F.p-1)=x:=⟨_,rfl⟩;have lLE:(D LE).length<=4:=by rw[<-hLE];exact aE _ 113 4 (Nat.pow_lt_pow_right (by omega) (by omega)) (by omega)
    have kT:=hid (fun v:World=>show Calls Tryz.prog 43 #[.int .i64 (e0-1)] v fun e w'=>Ret v w' e (D LE)from by
     have k:=vJ (F.p-1) v (by omega)
     rw[show((F.p-1:Nat):Int)=e0-1 by have:=HE0.out;omega,hLE]at k;exact k)
    obtain⟨cz,hcz⟩:∃x,aY (ts:Int) (LE:Int)=x:=⟨_,rfl⟩
    have kC:=hid (fun(a b:Option Addr)(c d:Nat)(v:World)(r1:Rd v a (D ts))(r2:Rd v b (D LE))=>show Calls Tryz.prog 59 #[.slice a (D ts).length c,.slice b (D LE).length d] v fun e w'=>e=.returned (.int .i64 cz)/\Below v.heap.size v w' from by
     have k:=dM a b _ _ c d ts LE v rfl rfl (by omega) (by omega) r1 r2;rw[hcz]at k;refine k.mono ?_;rintro e w' ⟨rfl,rfl⟩
     exact⟨rfl,Below.refl _ _⟩)
    have HJ:=hid (fun u (hu:Below v8.heap.size v8 u)=>J.out.below hu)
    clear p0 J hLE hcz CP CD
    by_cases c0:cz=0
    . subst c0
      first|(go_region_held3 (fun v=>v.cell? ⟨gd,0,none⟩=some (.int .i64 e0)/\v.cell? ⟨gd,1,none⟩=some (.int .i64 e1)/\v.cell? ⟨w.heap.size,0,none⟩=some (.int .i64 3)/\v.cell? ⟨w.heap.size,2,none⟩=some (.int .u64 (M.hiN ts:Int))/\v.cell? ⟨w.heap.size,3,none⟩=some (.int .u64 (M.loN ts:Int))/\v.cell? ⟨w.heap.size,4,none⟩=some (.int .i64 tq)) (first|with_reducible exact KB.out _ hb3|with_reducible exact KB.out _ hb2|with_reducible exact KB.out _ hb1|with_reducible exact KB.out _ A0) (first|(have hq:=hb2;clear hq;go_at_call 59;refine(kC.out _ _ _ _ _ g1 g2).mono ?_;rintro e u3 ⟨rfl,hb0⟩;have hb3:=aK (w1:=v8) hb2 hb0;clear hb0)|(have hq:=hb1;clear hq;go_at_call 43;refine(kT.out _).mono ?_;rintro e u2 ⟨ha9,hcp,rfl,ho2,hb0⟩;have g2:=Rd.own ho2;replace g1:=g1.below hb0;have hb2:=aK (w1:=v8) hb1 hb0;clear hb0 ho2)|(go_at_call 63;refine(gF ts hs _).mono ?_;rintro e u1 ⟨ga,gc,rfl,ho1,hb0⟩;have g1:=Rd.own ho1;have hb1:=aK (w1:=v8) A0 hb0;clear hb0 ho1)))|fail
      all_goals go_wp2_with fail
      all_goals go_meet
      all_goals exact⟨⟨_,rfl⟩,HJ.out _ hb3⟩
    . have c0':(cz==0)=false:=by simpa using c0
      obtain⟨d0,d1,p0,p2,p3,p4⟩:=KB.out _ A0;refine wp_region_any (by kernel_rfl) ?_;change wpAny _ _ _ _ _ _ _ (World.drew _)
      refine wpAny_take (i:=0) (v:=?_) rfl (by kernel_rfl) (by kernel_rfl) (by kernel_rfl) (fun _ _ _ h=>h) (Or.inl ⟨by kernel_rfl,?_⟩) ?_
      rotate_left
      . (intro w;first|(go_simp;done)|(go_simp;with_reducible rfl)|with_reducible rfl)
      change wpAny _ _ _ _ _ _ (Act.put _ (some 24) _) _;simp only[Act.put,List.setIfInBounds_toArray,List.set_cons_zero,List.set_cons_succ];refine wpAny_ready (rs:=[1]) (by kernel_rfl) (by simp) ?_
      refine AllReady.cons rfl (fun K hK=>?_) AllReady.nil
      go_simp;refine hK _ _ ?_;clear hK K
      refine wpAny_take (i:=2) (v:=?_) rfl (by kernel_rfl) (by kernel_rfl) (by kernel_rfl) (fun _ _ _ h=>h) (Or.inl ⟨by kernel_rfl,?_⟩) ?_
      rotate_left
      . (intro w;first|(go_simp;done)|(go_simp;with_reducible rfl)|with_reducible rfl)
      change wpAny _ _ _ _ _ _ (Act.put _ (some 26) _) _;simp only[Act.put,List.setIfInBounds_toArray,List.set_cons_zero,List.set_cons_succ]
      refine wpAny_take (i:=3) (v:=?_) rfl (by kernel_rfl) (by kernel_rfl) (by kernel_rfl) (fun _ _ _ h=>h) (Or.inl ⟨by kernel_rfl,?_⟩) ?_
      rotate_left
      . (intro w;first|(go_simp;done)|(go_simp;with_reducible rfl)|with_reducible rfl)
      change wpAny _ _ _ _ _ _ (Act.put _ (some 27) _) _;simp only[Act.put,List.setIfInBounds_toArray,List.set_cons_zero,List.set_cons_succ]
      refine wpAny_take (i:=4) (v:=?_) rfl (by kernel_rfl) (by kernel_rfl) (by kernel_rfl) (fun _ _ _ h=>h) (Or.inl ⟨by kernel_rfl,?_⟩) ?_
      rotate_left
      . (intro w;first|(go_simp;done)|(go_simp;with_reducible rfl)|with_reducible rfl)
      change wpAny _ _ _ _ _ _ (Act.put _ (some 28) _) _;simp only[Act.put,List.setIfInBounds_toArray,List.set_cons_zero,List.set_cons_succ]
      refine wpAny_take (i:=7) (v:=?_) rfl (by kernel_rfl) (by kernel_rfl) (by kernel_rfl) (fun _ _ _ h=>h) (Or.inl ⟨by kernel_rfl,?_⟩) ?_
      rotate_left
      . (intro w;first|(go_simp;done)|(go_simp;with_reducible rfl)|with_reducible rfl)
      change wpAny _ _ _ _ _ _ (Act.put _ (some 31) _) _;simp only[Act.put,List.setIfInBounds_toArray,List.set_cons_zero,List.set_cons_succ];refine wpAny_ready (rs:=[5,8]) (by kernel_rfl) (by simp) ?_
      refine AllReady.cons rfl (fun K hK=>?_) (AllReady.cons rfl (fun K hK=>?_) AllReady.nil)
      go_simp;refine hK _ _ ?_;clear hK K;refine wpAny_ready (rs:=[6,8]) (by kernel_rfl) (by simp) ?_
      refine AllReady.cons rfl (fun K hK=>?_) (AllReady.cons rfl (fun K hK=>?_) AllReady.nil)
      go_simp
      go_at_call 63;refine(gF ts hs _).mono ?_;rintro e u1 ⟨ga,gc,rfl,ho1,hb0⟩;have g1:=Rd.own ho1;have hb1:=aK (w1:=v8) A0 hb0;clear hb0 ho1;obtain⟨m0,m1,n0,n2,n3,n4⟩:=KB.out _ hb1
      go_simp;refine hK _ _ ?_;clear hK K;refine wpAny_ready (rs:=[8]) (by kernel_rfl) (by simp) ?_
      refine AllReady.cons rfl (fun K hK=>?_) AllReady.nil
      go_simp;refine hK _ _ ?_;clear hK K
      refine wpAny_take (i:=9) (v:=?_) rfl (by kernel_rfl) (by kernel_rfl) (by kernel_rfl) (fun _ _ _ h=>h) (Or.inl ⟨by kernel_rfl,?_⟩) ?_
      rotate_left
      . (intro w;first|(go_simp;done)|(go_simp;with_reducible rfl)|with_reducible rfl)
      change wpAny _ _ _ _ _ _ (Act.put _ (some 33) _) _;simp only[Act.put,List.setIfInBounds_toArray,List.set_cons_zero,List.set_cons_succ];refine wpAny_ready (rs:=[10]) (by kernel_rfl) (by simp) ?_
      refine AllReady.cons rfl (fun K hK=>?_) AllReady.nil
      go_simp;have hq:=hb1;clear hq;go_at_call 43;refine(kT.out _).mono ?_;rintro e u2 ⟨ha9,hcp,rfl,ho2,hb0⟩;have g2:=Rd.own ho2;replace g1:=g1.below hb0;have hb2:=aK (w1:=v8) hb1 hb0;clear hb0 ho2;obtain⟨m0,m1,n0,n2,n3,n4⟩:=KB.out _ hb2;go_simp;refine hK _ _ ?_;clear hK K;refine wpAny_ready (rs:=[11]) (by kernel_rfl) (by simp) ?_
      refine AllReady.cons rfl (fun K hK=>?_) AllReady.nil
      go_simp;have hq:=hb2;clear hq;go_at_call 59;refine(kC.out _ _ _ _ _ g1 g2).mono ?_;rintro e u3 ⟨rfl,hb0⟩;have hb3:=aK (w1:=v8) hb2 hb0;clear hb0;obtain⟨m0,m1,n0,n2,n3,n4⟩:=KB.out _ hb3;go_simp;refine hK _ _ ?_;clear hK K;rotate_left;go_simp;refine hK _ _ ?_;clear hK K
      refine wpAny_take (i:=9) (v:=?_) rfl (by kernel_rfl) (by kernel_rfl) (by kernel_rfl) (fun _ _ _ h=>h) (Or.inl ⟨by kernel_rfl,?_⟩) ?_
      rotate_left
      . (intro w;first|(go_simp;done)|(go_simp;with_reducible rfl)|with_reducible rfl)
      change wpAny _ _ _ _ _ _ (Act.put _ (some 33) _) _;simp only[Act.put,List.setIfInBounds_toArray,List.set_cons_zero,List.set_cons_succ];refine wpAny_ready (rs:=[6]) (by kernel_rfl) (by simp) ?_
      refine AllReady.cons rfl (fun K hK=>?_) AllReady.nil
      go_simp
      go_at_call 63;refine(gF ts hs _).mono ?_;rintro e u1 ⟨ga,gc,rfl,ho1,hb0⟩;have g1:=Rd.own ho1;have hb1:=aK (w1:=v8) A0 hb0;clear hb0 ho1;obtain⟨m0,m1,n0,n2,n3,n4⟩:=KB.out _ hb1
      go_simp;refine hK _ _ ?_;clear hK K;refine wpAny_ready (rs:=[10]) (by kernel_rfl) (by simp) ?_
      refine AllReady.cons rfl (fun K hK=>?_) AllReady.nil
      go_simp;have hq:=hb1;clear hq;go_at_call 43;refine(kT.out _).mono ?_;rintro e u2 ⟨ha9,hcp,rfl,ho2,hb0⟩;have g2:=Rd.own ho2;replace g1:=g1.below hb0;have hb2:=aK (w1:=v8) hb1 hb0;clear hb0 ho2;obtain⟨m0,m1,n0,n2,n3,n4⟩:=KB.out _ hb2;go_simp;refine hK _ _ ?_;clear hK K;refine wpAny_ready (rs:=[11]) (by kernel_rfl) (by simp) ?_
      refine AllReady.cons rfl (fun K hK=>?_) AllReady.nil
      go_simp;have hq:=hb2;clear hq;go_at_call 59;refine(kC.out _ _ _ _ _ g1 g2).mono ?_;rintro e u3 ⟨rfl,hb0⟩;have hb3:=aK (w1:=v8) hb2 hb0;clear hb0;obtain⟨m0,m1,n0,n2,n3,n4⟩:=KB.out _ hb3;go_simp;refine hK _ _ ?_;clear hK K;rotate_left;go_simp;refine hK _ _ ?_;clear hK K
      refine wpAny_take (i:=9) (v:=?_) rfl (by kernel_rfl) (by kernel_rfl) (by kernel_rfl) (fun _ _ _ h=>h) (Or.inl ⟨by kernel_rfl,?_⟩) ?_
      rotate_left
      . (intro w;first|(go_simp;done)|(go_simp;with_reducible rfl)|with_reducible rfl)
      change wpAny _ _ _ _ _ _ (Act.put _ (some 33) _) _;simp only[Act.put,List.setIfInBounds_toArray,List.set_cons_zero,List.set_cons_succ];refine wpAny_ready (rs:=[5]) (by kernel_rfl) (by simp) ?_
      refine AllReady.cons rfl (fun K hK=>?_) AllReady.nil
      go_simp;refine hK _ _ ?_;clear hK K;refine wpAny_ready (rs:=[6]) (by kernel_rfl) (by simp) ?_
      refine AllReady.cons rfl (fun K hK=>?_) AllReady.nil
      go_simp
      go_at_call 63;refine(gF ts hs _).mono ?_;rintro e u1 ⟨ga,gc,rfl,ho1,hb0⟩;have g1:=Rd.own ho1;have hb1:=aK (w1:=v8) A0 hb0;clear hb0 ho1;obtain⟨m0,m1,n0,n2,n3,n4⟩:=KB.out _ hb1
      go_simp;refine hK _ _ ?_;clear hK K;refine wpAny_ready (rs:=[10]) (by kernel_rfl) (by simp) ?_
      refine AllReady.cons rfl (fun K hK=>?_) AllReady.nil
      go_simp;have hq:=hb1;clear hq;go_at_call 43;refine(kT.out _).mono ?_;rintro e u2 ⟨ha9,hcp,rfl,ho2,hb0⟩;have g2:=Rd.own ho2;replace g1:=g1.below hb0;have hb2:=aK (w1:=v8) hb1 hb0;clear hb0 ho2;obtain⟨m0,m1,n0,n2,n3,n4⟩:=KB.out _ hb2;go_simp;refine hK _ _ ?_;clear hK K;refine wpAny_ready (rs:=[11]) (by kernel_rfl) (by simp) ?_
      refine AllReady.cons rfl (fun K hK=>?_) AllReady.nil
      go_simp;have hq:=hb2;clear hq;go_at_call 59;refine(kC.out _ _ _ _ _ g1 g2).mono ?_;rintro e u3 ⟨rfl,hb0⟩;have hb3:=aK (w1:=v8) hb2 hb0;clear hb0;obtain⟨m0,m1,n0,n2,n3,n4⟩:=KB.out _ hb3;go_simp;refine hK _ _ ?_;clear hK K;rotate_left
      all_goals
       refine wpAny_take (i:=12) (v:=.bool false) rfl (by kernel_rfl) (by kernel_rfl) (by kernel_rfl) (fun _ _ _ h=>h) (Or.inl ⟨by kernel_rfl,?_⟩) ?_
       . (intro w;first|(go_simp;done)|(go_simp;with_reducible rfl)|with_reducible rfl)
       change wpAny _ _ _ _ _ _ (Act.put _ (some 36) _) _;simp only[Act.put,List.setIfInBounds_toArray,List.set_cons_zero,List.set_cons_succ]
       refine wpAny_take (i:=13) (v:=.bool false) rfl (by kernel_rfl) (by kernel_rfl) (by kernel_rfl) (fun _ _ _ h=>h) (Or.inl ⟨by kernel_rfl,?_⟩) ?_
       . (intro w;first|(go_simp;done)|(go_simp;with_reducible rfl)|with_reducible rfl)
       change wpAny _ _ _ _ _ _ (Act.put _ (some 37) _) _;simp only[Act.put,List.setIfInBounds_toArray,List.set_cons_zero,List.set_cons_succ]
       refine wpAny_take (i:=14) (v:=.bool false) rfl (by kernel_rfl) (by kernel_rfl) (by kernel_rfl) (fun _ _ _ h=>h) (Or.inl ⟨by kernel_rfl,?_⟩) ?_
       . (intro w;first|(go_simp;done)|(go_simp;with_reducible rfl)|with_reducible rfl)
       change wpAny _ _ _ _ _ _ (Act.put _ (some 38) _) _;simp only[Act.put,List.setIfInBounds_toArray,List.set_cons_zero,List.set_cons_succ]
       refine wpAny_take (i:=15) (v:=undef) rfl (by kernel_rfl) (by kernel_rfl) (by kernel_rfl) (fun _ _ _ h=>h) (Or.inr ⟨by kernel_rfl,rfl⟩) ?_
       change wpAny _ _ _ _ _ _ (Act.put _ (some 39) _) _;simp only[Act.put,List.setIfInBounds_toArray,List.set_cons_zero,List.set_cons_succ]
       refine wpAny_take (i:=16) (v:=undef) rfl (by kernel_rfl) (by kernel_rfl) (by kernel_rfl) (fun _ _ _ h=>h) (Or.inr ⟨by kernel_rfl,rfl⟩) ?_
       change wpAny _ _ _ _ _ _ (Act.put _ (some 40) _) _;simp only[Act.put,List.setIfInBounds_toArray,List.set_cons_zero,List.set_cons_succ]
       refine wpAny_take (i:=17) (v:=undef) rfl (by kernel_rfl) (by kernel_rfl) (by kernel_rfl) (fun _ _ _ h=>h) (Or.inr ⟨by kernel_rfl,rfl⟩) ?_
       change wpAny _ _ _ _ _ _ (Act.put _ (some 41) _) _;simp only[Act.put,List.setIfInBounds_toArray,List.set_cons_zero,List.set_cons_succ]
       refine wpAny_take (i:=18) (v:=undef) rfl (by kernel_rfl) (by kernel_rfl) (by kernel_rfl) (fun _ _ _ h=>h) (Or.inr ⟨by kernel_rfl,rfl⟩) ?_
       change wpAny _ _ _ _ _ _ (Act.put _ (some 42) _) _;simp only[Act.put,List.setIfInBounds_toArray,List.set_cons_zero,List.set_cons_succ]
       refine wpAny_take (i:=19) (v:=undef) rfl (by kernel_rfl) (by kernel_rfl) (by kernel_rfl) (fun _ _ _ h=>h) (Or.inr ⟨by kernel_rfl,rfl⟩) ?_
       change wpAny _ _ _ _ _ _ (Act.put _ (some 43) _) _;simp only[Act.put,List.setIfInBounds_toArray,List.set_cons_zero,List.set_cons_succ]
       refine wpAny_take (i:=20) (v:=undef) rfl (by kernel_rfl) (by kernel_rfl) (by kernel_rfl) (fun _ _ _ h=>h) (Or.inr ⟨by kernel_rfl,rfl⟩) ?_
       change wpAny _ _ _ _ _ _ (Act.put _ (some 44) _) _;simp only[Act.put,List.setIfInBounds_toArray,List.set_cons_zero,List.set_cons_succ]
       refine wpAny_take (i:=21) (v:=undef) rfl (by kernel_rfl) (by kernel_rfl) (by kernel_rfl) (fun _ _ _ h=>h) (Or.inr ⟨by kernel_rfl,rfl⟩) ?_
       change wpAny _ _ _ _ _ _ (Act.put _ (some 45) _) _;simp only[Act.put,List.setIfInBounds_toArray,List.set_cons_zero,List.set_cons_succ]
       refine wpAny_take (i:=22) (v:=undef) rfl (by kernel_rfl) (by kernel_rfl) (by kernel_rfl) (fun _ _ _ h=>h) (Or.inr ⟨by kernel_rfl,rfl⟩) ?_
       change wpAny _ _ _ _ _ _ (Act.put _ (some 46) _) _;simp only[Act.put,List.setIfInBounds_toArray,List.set_cons_zero,List.set_cons_succ]
       refine wpAny_take (i:=23) (v:=undef) rfl (by kernel_rfl) (by kernel_rfl) (by kernel_rfl) (fun _ _ _ h=>h) (Or.inr ⟨by kernel_rfl,rfl⟩) ?_
       change wpAny _ _ _ _ _ _ (Act.put _ (some 47) _) _;simp only[Act.put,List.setIfInBounds_toArray,List.set_cons_zero,List.set_cons_succ];refine wpAny_ready (rs:=[24]) (by kernel_rfl) (by simp) ?_
       refine AllReady.cons rfl (fun K hK=>?_) AllReady.nil
       go_simp;refine hK _ _ ?_;clear hK K;refine wpAny_done (by kernel_rfl) ?_ _;go_wp2_with fail;go_meet;exact⟨⟨_,rfl⟩,HJ.out _ hb3⟩
  . have hc3':(cls==3)=false:=by simpa using hc3
    go_quiet(fail)
    have J:=hid (J.out.below (show Below v8.heap.size v8 (v8.drewN nq)from⟨rfl,rfl,rfl,Nat.le_refl _,fun _ _=>rfl⟩))
    go_wp2_with fail;go_meet;exact⟨⟨_,rfl⟩,J.out⟩
 case rest=>
 as_aux_lemma=>
 rename World=>v9
 obtain⟨⟨b,rfl⟩,j⟩:=hcut;have J:=hid j;clear j;go_upto_if 48 with fail
 go_cut[10,48] (fun lv _ wx=>∃la2 lc2 LO,lv=.slice la2 (D LO).length lc2/\1<=LO/\LO<2^130/\NJ wx w [(w.heap.size,P,67),(gd,Q,37)] [(la2,LO),(ha,FO+2)])
 case first=>
  as_aux_lemma=>
  cases b with
  |true=>
   go_wp2_with fail;refine(k1.out _).mono ?_;rintro e z1 ⟨oa3,oc3,rfl,o,hb⟩;have J:=hid (J.out.own o hb);clear o hb;go_wp2_with fail;refine(gU fa oa3 _ _ fc oc3 FO 1 _ rfl rfl (by omega) (by omega) (J.out.rd (fa,FO) (by simp)) (J.out.rd (oa3,1) (by simp))).mono ?_;rintro e z2 ⟨la2,lc2,rfl,o,hb⟩;have J:=hid ((J.out.own o hb).sub (m:=[(la2,FO-1),(ha,FO+2)]) (by simp));clear o hb;go_wp2_with fail;go_meet;exact⟨la2,lc2,FO-1,rfl,by omega,Nat.lt_of_le_of_lt (Nat.sub_le _ _) HF2.out,J.out⟩
  |false=>
   go_wp2_with fail;go_meet;exact⟨la,lc,FO-2,rfl,by omega,Nat.lt_of_le_of_lt (Nat.sub_le _ _) HF2.out,J.out.sub (by simp)⟩
 case rest=>
 as_aux_lemma=>
 rename World=>va
 obtain⟨la2,lc2,LO,rfl,hLO1,hLO,j⟩:=hcut;have J:=hid j;have lLO:(D LO).length<=5:=aE LO 130 5 hLO (by omega);have HLO:=hid hLO;have wq:IntKind.i64.wrap (tq-2)=tq-2:=by simp only[IntKind.wrap_i64];omega
 have wn:IntKind.i64.wrap (-(tq-2))= -(tq-2):=by simp only[IntKind.wrap_i64];omega
 have p4:=(CP.out _ _ J.out).cell 4 rfl;clear j hLO
 by_cases hq:0<=tq-2
 . have K9:=hid (fun(N:Nat)(a:Option Addr)(c:Nat)(v:World)(h:(D N).length<=5)(r:Rd v a (D N))=>show Calls Tryz.prog 42 #[.slice a (D N).length c,.int .i64 (tq-2)] v fun e w'=>Ret v w' e (D (N*2^(tq-2).toNat))from by
    have k:=aN a _ c (tq-2).toNat N v rfl (by omega) (by omega) r
    rw[show(((tq-2).toNat:Nat):Int)=tq-2 by omega]at k;exact k)
   have big:∀N,N<2^131->(D (N*2^(tq-2).toNat)).length<=1500:=fun N hN=>aE _ (131+(tq-2).toNat) 1500 (by rw[Nat.pow_add];exact Nat.mul_lt_mul_of_pos_right hN (Nat.pow_pos (by omega))) (by omega)
   have BG:=hid big;have c1:1=C:=by rw[HC.out,show(2-tq).toNat=0 by omega,Nat.pow_zero]
   have HC1:=hid c1;clear big c1;go_wp2_with fail;refine(K9.out LO _ _ _ lLO (J.out.rd (la2,LO) (by simp))).mono ?_;rintro e z1 ⟨xa,xc,rfl,o,hb⟩;have J:=hid (J.out.own o hb);clear o hb p4;go_wp2_with fail;refine(K9.out (FO+2) _ _ _ lh (J.out.rd (ha,FO+2) (by simp))).mono ?_;rintro e z2 ⟨ya,yc,rfl,o,hb⟩;have J:=hid (J.out.own o hb);clear o hb;go_wp2_with fail;refine(k1.out _).mono ?_;rintro e z3 ⟨ka,kc,rfl,o,hb⟩;have J:=hid (J.out.own o hb);clear o hb;go_wp2_with fail;refine bodyPost_ret (v:=.tuple #[.slice xa (D (LO*2^(tq-2).toNat)).length xc,.slice ya (D ((FO+2)*2^(tq-2).toNat)).length yc,.slice ka (D 1).length kc]) (by simp[results,Tryz.results119,go_sem]) rfl ?_;refine⟨_,_,⟨Nat.mul_pos hLO1 (Nat.pow_pos (by omega)),Nat.mul_pos (by omega) (Nat.pow_pos (by omega))⟩,BG.out LO (Nat.lt_trans HLO.out (by omega)),BG.out (FO+2) (by have:=HF2.out;omega),xa,xc,ya,yc,ka,kc,by rw[<-HC1.out],J.out.rd (xa,LO*2^(tq-2).toNat) (by simp),J.out.rd (ya,(FO+2)*2^(tq-2).toNat) (by simp),by rw[<-HC1.out];exact J.out.rd (ka,1) (by simp),J.out.b0⟩
 . have hqd:decide (0<=tq-2)=false:=decide_eq_false hq
   have kT:=hid (fun v:World=>show Calls Tryz.prog 43 #[.int .i64 (-(tq-2))] v fun e w'=>Ret v w' e (D C)from by
    have k:=vJ (2-tq).toNat v (by omega)
    rw[show(((2-tq).toNat:Nat):Int)= -(tq-2) by omega,<-HC.out]at k;exact k)
   go_wp2_with fail;refine(kT.out _).mono ?_;rintro e z1 ⟨ka,kc,rfl,o,hb⟩;have J:=hid (J.out.own o hb);clear o hb p4;go_wp2_with fail;refine bodyPost_ret (v:=.tuple #[.slice la2 (D LO).length lc2,.slice ha (D (FO+2)).length hc,.slice ka (D C).length kc]) (by simp[results,Tryz.results119,go_sem]) rfl ?_;exact⟨LO,FO+2,⟨hLO1,by omega⟩,by omega,by omega,la2,lc2,ha,hc,ka,kc,rfl,J.out.rd (la2,LO) (by simp),J.out.rd (ha,FO+2) (by simp),J.out.rd (ka,C) (by simp),J.out.b0⟩

theorem PH (f:Int)(T:M.Pt)(F:M.Fm)(C:Nat)(w:World)(hs1:1<=T.s)(hs:T.s<2^128)(hq1:-16700<=T.q)(hq2:T.q<=16700)(hp1:2<=F.p)(hp2:F.p<=113)(hm:F.emax<=20000)(hC:C=2^(2-T.q).toNat)
 (kE:∀v:World,Calls Tryz.prog 9 #[.int .i64 f] v fun e w'=>e=.returned (dv F)/\Below v.heap.size v w'):
 Calls Tryz.prog 119 #[.int .i64 f,pv T] w fun e w'=>∃A B,(D A).length<=1500/\(D B).length<=1500/\Sp3 w w' e A B C:=by
 refine(KL f T F C w hs1 hs hq1 hq2 hp1 hp2 hm hC kE).mono ?_;rintro e w' ⟨A,B,-,h⟩;exact⟨A,B,h⟩

end Go.Proofs.YtfdgkleoaehjaaaGreatDoor
namespace Go.Proofs.YtfdgkleoaehjaaaGreatDoor.M
set_option linter.unusedVariables false
set_option maxRecDepth 100000

theorem RJ:10^643<=2^2136:=by decide+kernel

theorem p59:10^59<=2^196:=by decide+kernel

theorem p3:10^3<=2^10:=by decide+kernel

theorem RM:2^485<=10^146:=by decide+kernel

theorem p28:2^93<=10^28:=by decide+kernel

theorem p4:2^13<=10^4:=by decide+kernel

theorem GG {a b x y:Nat}(h:a^x<=b^y)(k:Nat):a^(x*k)<=b^(y*k):=by
 rw[Nat.pow_mul,Nat.pow_mul];exact Nat.pow_le_pow_left h k

theorem I5 (m:Nat)(h:m<=16600):10^(m*30103/100000-2)<=2^m:=by
 obtain⟨a,b,hm,hb⟩:∃a b,m=2136*a+b/\b<2136:=⟨m/2136,m%2136,by omega,by omega⟩;obtain⟨c,r,hb2,hr⟩:∃c r,b=196*c+r/\r<196:=⟨b/196,b%196,by omega,by omega⟩;obtain⟨d,t,hr2,ht⟩:∃d t,r=10*d+t/\t<10:=⟨r/10,r%10,by omega,by omega⟩;have e:m*30103/100000-2<=643*a+59*c+3*d:=by omega
 have h1:10^(643*a+59*c+3*d)<=2^(2136*a+196*c+10*d):=by
  rw[Nat.pow_add,Nat.pow_add,Nat.pow_add,Nat.pow_add];exact Nat.mul_le_mul (Nat.mul_le_mul (GG RJ a) (GG p59 c)) (GG p3 d)
 exact Nat.le_trans (Nat.pow_le_pow_right (by omega) e) (Nat.le_trans h1 (Nat.pow_le_pow_right (by omega) (by omega)))

theorem IJ (m:Nat)(h:m<=16600):2^m<=10^(m*30103/100000+2):=by
 obtain⟨a,b,hm,hb⟩:∃a b,m=485*a+b/\b<485:=⟨m/485,m%485,by omega,by omega⟩;obtain⟨c,r,hb2,hr⟩:∃c r,b=93*c+r/\r<93:=⟨b/93,b%93,by omega,by omega⟩;obtain⟨d,t,hr2,ht⟩:∃d t,r=13*d+t/\t<13:=⟨r/13,r%13,by omega,by omega⟩
 obtain⟨u,hu,hut⟩:∃u,2^t<=10^u/\u*3<=t+2:=by
  refine⟨(t+2)/3,?_,by omega⟩;have:t=0\/t=1\/t=2\/t=3\/t=4\/t=5\/t=6\/t=7\/t=8\/t=9\/t=10\/t=11\/t=12:=by omega
  rcases this with rfl|rfl|rfl|rfl|rfl|rfl|rfl|rfl|rfl|rfl|rfl|rfl|rfl<;>decide
 have e:146*a+28*c+4*d+u<=m*30103/100000+2:=by omega
 have h1:2^(485*a+93*c+13*d+t)<=10^(146*a+28*c+4*d+u):=by
  rw[Nat.pow_add,Nat.pow_add,Nat.pow_add,Nat.pow_add,Nat.pow_add,Nat.pow_add];exact Nat.mul_le_mul (Nat.mul_le_mul (Nat.mul_le_mul (GG RM a) (GG p28 c)) (GG p4 d)) hu
 have e2:m=485*a+93*c+13*d+t:=by omega
 rw[e2]at e|-;exact Nat.le_trans h1 (Nat.pow_le_pow_right (by omega) e)

def un (m:Nat)(x:Int):Nat:=m*10^(-x).toNat

def ud (den:Nat)(x:Int):Nat:=den*10^x.toNat

theorem iE {den:Nat}(h:0<den)(x:Int):0<ud den x:=Nat.mul_pos h (Nat.pow_pos (by omega))

theorem xS (m den : Nat) (x : Int) (k : Nat) : un m x * ud den (x + k) = un m (x + k) * ud den x * 10 ^ k := by
  unfold un ud
  have e : 10 ^ (-x).toNat * 10 ^ (x + k).toNat = 10 ^ (-(x + k)).toNat * 10 ^ x.toNat * 10 ^ k := by
    rw [<- Nat.pow_add, <- Nat.pow_add, <- Nat.pow_add]
    congr 1
    omega
  calc m * 10 ^ (-x).toNat * (den * 10 ^ (x + k).toNat) = m * den * (10 ^ (-x).toNat * 10 ^ (x + k).toNat) := by
        rw [Nat.mul_assoc, Nat.mul_left_comm (10 ^ (-x).toNat), <- Nat.mul_assoc]
    _ = m * den * (10 ^ (-(x + k)).toNat * 10 ^ x.toNat * 10 ^ k) := by rw [e]
    _ = m * 10 ^ (-(x + k)).toNat * (den * 10 ^ x.toNat) * 10 ^ k := by
        rw [<- Nat.mul_assoc, <- Nat.mul_assoc, Nat.mul_assoc m, Nat.mul_comm den, <- Nat.mul_assoc, Nat.mul_assoc _ den]

theorem QQ (m den c : Nat) (hd : 0 < den) (x : Int) (k : Nat) : un m (x + k) <= c * ud den (x + k) ↔ un m x <= c * 10 ^ k * ud den x := by
  have s := xS m den x k;have p1 := iE hd x;have p2 := iE hd (x + k);have p3 : 0 < 10 ^ k := Nat.pow_pos (by omega)
  constructor
  . intro h;refine Nat.le_of_mul_le_mul_right (c := ud den (x + k)) ?_ p2;rw [s]
    calc un m (x + k) * ud den x * 10 ^ k <= c * ud den (x + k) * ud den x * 10 ^ k := Nat.mul_le_mul_right _ (Nat.mul_le_mul_right _ h)
      _ = c * 10 ^ k * ud den x * ud den (x + k) := by
          rw [Nat.mul_assoc c, Nat.mul_comm (ud den (x + k)), <- Nat.mul_assoc, Nat.mul_right_comm, Nat.mul_right_comm c]
  . intro h;refine Nat.le_of_mul_le_mul_right (c := ud den x * 10 ^ k) ?_ (Nat.mul_pos p1 p3);rw [<- Nat.mul_assoc, <- s]
    calc un m x * ud den (x + k) <= c * 10 ^ k * ud den x * ud den (x + k) := Nat.mul_le_mul_right _ h
      _ = c * ud den (x + k) * (ud den x * 10 ^ k) := by
          rw [Nat.mul_right_comm _ (ud den x), Nat.mul_right_comm c, Nat.mul_assoc (c * ud den (x + k)), Nat.mul_comm (10 ^ k)]

theorem LF (m den c:Nat)(hd:0<den)(x:Int)(k:Nat):c*ud den (x+k)<=un m (x+k)↔c*10^k*ud den x<=un m x:=by
 have s:=xS m den x k;have p1:=iE hd x;have p2:=iE hd (x+k);have p3:0<10^k:=Nat.pow_pos (by omega);have e:c*ud den (x+k)*(ud den x*10^k)=c*10^k*ud den x*ud den (x+k):=by ac_rfl
 constructor
 . intro h;refine Nat.le_of_mul_le_mul_right (c:=ud den (x+k)) ?_ p2;rw[s,<-e,Nat.mul_assoc (un m (x+k))];exact Nat.mul_le_mul_right _ h
 . intro h;refine Nat.le_of_mul_le_mul_right (c:=ud den x*10^k) ?_ (Nat.mul_pos p1 p3);rw[e,<-Nat.mul_assoc,<-s];exact Nat.mul_le_mul_right _ h

def uT (m den:Nat)(x:Int):Nat:=un m x/ud den x

theorem pO (m den:Nat)(hd:0<den)(x:Int)(k:Nat):uT m den (x+k)=uT m den x/10^k:=by
 have p1:=iE hd x;have p2:=iE hd (x+k);have p3:0<10^k:=Nat.pow_pos (by omega);unfold uT
 apply Nat.le_antisymm
 . rw[Nat.le_div_iff_mul_le p3,Nat.le_div_iff_mul_le p1,<-LF m den _ hd x k];exact Nat.div_mul_le_self _ _
 . rw[Nat.le_div_iff_mul_le p2,LF m den _ hd x k,<-Nat.le_div_iff_mul_le p1,<-Nat.le_div_iff_mul_le p3];exact Nat.le_refl _

def zL (lo m den:Nat)(cl:Bool)(x:Int):Prop:=if cl then un lo x<=uT m den x*ud den x else un lo x<uT m den x*ud den x

def CK (hi m den:Nat)(cl:Bool)(x:Int):Prop:=if cl then(uT m den x+1)*ud den x<=un hi x else(uT m den x+1)*ud den x<un hi x

instance (lo m den:Nat) (cl:Bool) (x:Int):Decidable (zL lo m den cl x):=by unfold zL;infer_instance

instance (hi m den:Nat) (cl:Bool) (x:Int):Decidable (CK hi m den cl x):=by unfold CK;infer_instance

def uB (m:Int):Int:=(m*30103).tdiv 100000-2

theorem I8 (m:Nat):uB (m:Int)=((m*30103/100000:Nat):Int)-2:=by
 unfold uB;rw[Int.tdiv_eq_ediv_of_nonneg (by omega)];omega

theorem IB (m:Nat):uB (-(m:Int))= -((m*30103/100000:Nat):Int)-2:=by
 unfold uB;rw[show-(m:Int)*30103= -((m*30103:Nat):Int) by omega,Int.neg_tdiv,Int.tdiv_eq_ediv_of_nonneg (by omega)];omega

theorem MU (m:Int)(h1:-16600<=m)(h2:m<=16600):
 ud (2^(-m).toNat) (uB m)<=un (2^m.toNat) (uB m)/\un (2^m.toNat) (uB m)<=10000*ud (2^(-m).toNat) (uB m):=by
 unfold un ud;rcases Int.le_total 0 m with h|h
 . obtain⟨k,rfl⟩:=Int.eq_ofNat_of_zero_le h;have e0:(-(k:Int)).toNat=0:=by omega
   have e1:((k:Int)).toNat=k:=by omega
   rw[e0,e1,I8,Nat.pow_zero,Nat.one_mul];have lo:=I5 k (by omega);have up:=IJ k (by omega);generalize k*30103/100000=f at*;rcases Nat.lt_or_ge f 2 with hf|hf
   . have a1:((f:Int)-2).toNat=0:=by omega
     have a2:(-((f:Int)-2)).toNat=2-f:=by omega
     rw[a1,a2,Nat.pow_zero];have p:0<2^k*10^(2-f):=Nat.mul_pos (Nat.pow_pos (by omega)) (Nat.pow_pos (by omega));refine⟨p,?_⟩;have:=Nat.mul_le_mul_right (10^(2-f)) up;rw[<-Nat.pow_add,show f+2+(2-f)=4 by omega]at this;exact this
   . have a1:((f:Int)-2).toNat=f-2:=by omega
     have a2:(-((f:Int)-2)).toNat=0:=by omega
     rw[a1,a2,Nat.pow_zero,Nat.mul_one];refine⟨lo,?_⟩;rw[show f+2=4+(f-2) by omega,Nat.pow_add]at up;exact up
 . obtain⟨k,hk⟩:=Int.eq_ofNat_of_zero_le (show 0<= -m by omega);have em:m= -(k:Int):=by omega
   subst em;have e0:(-(-(k:Int))).toNat=k:=by omega
   have e1:(-(k:Int)).toNat=0:=by omega
   rw[e0,e1,IB,Nat.pow_zero,Nat.one_mul];have lo:=I5 k (by omega);have up:=IJ k (by omega);generalize k*30103/100000=f at*;have a1:(-(f:Int)-2).toNat=0:=by omega
   have a2:(-(-(f:Int)-2)).toNat=f+2:=by omega
   rw[a1,a2,Nat.pow_zero,Nat.mul_one];refine⟨up,?_⟩;rcases Nat.lt_or_ge f 2 with hf|hf
   . have p:1<=2^k:=Nat.pow_pos (by omega);have:10^(f+2)<=10^4:=Nat.pow_le_pow_right (by omega) (by omega);omega
   . rw[show f+2=4+(f-2) by omega,Nat.pow_add];exact Nat.mul_le_mul_left _ lo

structure Wd where
 s:Nat
 l:Nat
 q:Int

def Wd.mid (t:Wd):Nat:=4*t.s*2^(t.q-2).toNat

def Wd.lo (t:Wd):Nat:=t.l*2^(t.q-2).toNat

def Wd.hi (t:Wd):Nat:=(4*t.s+2)*2^(t.q-2).toNat

def Wd.den (t:Wd):Nat:=2^(2-t.q).toNat

def Wd.cl (t:Wd):Bool:=decide (t.s%2=0)

structure Wd.Ok (t:Wd):Prop where
 s1:1<=t.s
 s2:t.s<2^113
 l1:t.l<4*t.s
 q1:-16598<=t.q
 q2:t.q<=16600

theorem Wd.Ok.den_pos {t:Wd}(h:t.Ok):0<t.den:=Nat.pow_pos (by omega)

abbrev Wd.X (t:Wd):Int:=uB (t.q-2)

abbrev Wd.T (t:Wd)(x:Int):Nat:=uT t.mid t.den x

def Wd.ok (t:Wd)(x:Int):Prop:=zL t.lo t.mid t.den t.cl x\/CK t.hi t.mid t.den t.cl x

instance (t:Wd) (x:Int):Decidable (t.ok x):=by unfold Wd.ok;infer_instance

theorem sO (c m:Nat)(x:Int):un (c*m) x=c*un m x:=by unfold un;rw[Nat.mul_assoc]

theorem Wd.Ok.unit {t:Wd}(h:t.Ok):ud t.den t.X<=un (2^(t.q-2).toNat) t.X/\un (2^(t.q-2).toNat) t.X<=10000*ud t.den t.X:=by
 have:=MU (t.q-2) (by have:=h.q1;omega) (by have:=h.q2;omega);unfold Wd.den
 rwa[show(-(t.q-2)).toNat=(2-t.q).toNat by omega]at this

theorem Wd.Ok.first {t:Wd}(h:t.Ok):1<=t.T t.X/\t.T t.X<10^39/\t.ok t.X:=by
 obtain⟨u1,u2⟩:=h.unit;have p:=iE h.den_pos t.X;have s1:=h.s1;have s2:=h.s2;have l1:=h.l1;have em:un t.mid t.X=4*t.s*un (2^(t.q-2).toNat) t.X:=sO _ _ _;have el:un t.lo t.X=t.l*un (2^(t.q-2).toNat) t.X:=sO _ _ _;generalize hg:un (2^(t.q-2).toNat) t.X=g at*;generalize hb:ud t.den t.X=b at*
 have m1:1*b<=un t.mid t.X:=by
  rw[em];exact Nat.le_trans (by omega) (Nat.mul_le_mul (show 1<=4*t.s by omega) u1)
 refine⟨?_,?_,.inl ?_⟩
 . show 1<=un t.mid t.X/ud t.den t.X
   rw[hb,Nat.le_div_iff_mul_le p];exact m1
 . show un t.mid t.X/ud t.den t.X<10^39
   rw[hb,Nat.div_lt_iff_lt_mul p,em];have:4*t.s*g<=4*t.s*(10000*b):=Nat.mul_le_mul_left _ u2
   have h2:4*t.s*(10000*b)=(40000*t.s)*b:=by
    rw[<-Nat.mul_assoc,show 4*t.s*10000=40000*t.s by omega]
   have h3:(40000*t.s)*b<10^39*b:=Nat.mul_lt_mul_of_pos_right (by omega) p;omega
 . have k:un t.mid t.X<(t.T t.X+1)*b:=by
    have:=Nat.lt_div_mul_add (a:=un t.mid t.X) (b:=b) p
    show un t.mid t.X<(un t.mid t.X/ud t.den t.X+1)*b
    rw[hb,Nat.add_mul,Nat.one_mul];exact this
   have k2:un t.lo t.X<t.T t.X*b:=by
    rw[Nat.add_mul,Nat.one_mul,em]at k;rw[el]
    have:t.l*g+g<=4*t.s*g:=by
     have:=Nat.mul_le_mul_right g (show t.l+1<=4*t.s by omega)
     rwa[Nat.add_mul,Nat.one_mul]at this
    omega
   show zL t.lo t.mid t.den t.cl t.X
   unfold zL;rw[hb];split
   . exact Nat.le_of_lt k2
   . exact k2

theorem DQ:∀(n v:Nat),v<n->v≠0->10^((tl v).length-1)<=v/\v<10^(tl v).length/\0<(tl v).length
 |0,v,h,_=>by omega
 |n+1,v,h,h0=>by
  rw[nB h0]
  by_cases h1:v/10=0
  . rw[h1,nK]
    simp
    omega
  . obtain⟨a,b,c⟩:=DQ n (v/10) (by omega) h1;simp only[List.length_cons,Nat.add_sub_cancel];obtain⟨k,hk⟩:∃k,(tl (v/10)).length=k+1:=⟨(tl (v/10)).length-1,by omega⟩;rw[hk]at a b|-;simp only[Nat.add_sub_cancel]at a;refine⟨?_,?_,by omega⟩
    . rw[Nat.pow_succ];omega
    . rw[Nat.pow_succ];omega

theorem GY (v:Nat)(h:1<=v):10^((txt v).length-1)<=v/\v<10^(txt v).length/\1<=(txt v).length:=by
 have e:(txt v).length=(tl v).length:=by unfold txt;rw[if_neg (by omega),List.length_reverse]
 rw[e];exact DQ (v+1) v (by omega) (by omega)

abbrev Wd.N (t:Wd):Nat:=(txt (t.T t.X)).length

abbrev Wd.e (t:Wd):Int:=t.X+t.N-1

theorem Wd.Ok.N_le {t:Wd}(h:t.Ok):1<=t.N/\t.N<=39:=by
 obtain⟨f1,f2,_⟩:=h.first;exact⟨qT _,lY 38 _ f2⟩

theorem Wd.Ok.ten {t:Wd}(h:t.Ok)(y:Int):un t.mid y<ud t.den y↔t.e<y:=by
 obtain⟨f1,f2,_⟩:=h.first;obtain⟨a,b,c⟩:=GY _ f1;have hd:=h.den_pos;have hN:1<=t.N:=c
 have pT:∀y,un t.mid y<ud t.den y↔t.T y=0:=fun y=>by
  show _↔un t.mid y/ud t.den y=0
  rw[Nat.div_eq_zero_iff];have:=iE hd y;omega
 rw[pT]
 have e1:t.T t.e=t.T t.X/10^(t.N-1):=by
  have:t.e=t.X+((t.N-1:Nat):Int):=by show t.X+(t.N:Int)-1=_;omega
  rw[this];exact pO _ _ hd _ _
 have e2:t.T (t.e+1)=0:=by
  have:t.e+1=t.X+(t.N:Int):=by show t.X+(t.N:Int)-1+1=_;omega
  rw[this];have:=pO t.mid t.den hd t.X t.N
  show uT t.mid t.den (t.X+(t.N:Int))=0
  rw[this];exact Nat.div_eq_of_lt b
 have e3:1<=t.T t.e:=by
  rw[e1,Nat.le_div_iff_mul_le (Nat.pow_pos (by omega)),Nat.one_mul];exact a
 constructor
 . intro hy
   refine Classical.byContradiction fun hn=>?_
   obtain⟨k,hk⟩:=Int.eq_ofNat_of_zero_le (show 0<=t.e-y by omega);have q:=pO t.mid t.den hd y k;rw[show y+(k:Int)=t.e by omega]at q;have hy':uT t.mid t.den y=0:=hy;rw[hy',Nat.zero_div]at q;have:t.T t.e=0:=q;omega
 . intro hy;obtain⟨k,hk⟩:=Int.eq_ofNat_of_zero_le (show 0<=y-(t.e+1) by omega);have q:=pO t.mid t.den hd (t.e+1) k;rw[show t.e+1+(k:Int)=y by omega]at q
   show uT t.mid t.den y=0
   rw[q,show uT t.mid t.den (t.e+1)=0 from e2,Nat.zero_div]

structure Wd.Best (t:Wd)(r:Nat):Prop where
 lt:r<t.N
 ok:t.ok (t.X+r)
 no:∀z:Nat,r<z->z<t.N->¬t.ok (t.X+z)

theorem Wd.Best.try {t:Wd}{r:Nat}(b:t.Best r)(n:Nat)(h1:1<=n)(h2:n<=t.N-r):t.ok (t.e+1-n)↔n=t.N-r:=by
 have hr:=b.lt;have e:t.e+1-(n:Int)=t.X+((t.N-n:Nat):Int):=by show t.X+(t.N:Int)-1+1-n=_;omega
 rw[e]
 constructor
 . intro hk
   refine Classical.byContradiction fun hn=>?_
   exact b.no (t.N-n) (by omega) (by omega) hk
 . intro hn;rw[hn,show t.N-(t.N-r)=r by omega];exact b.ok

def Wd.vn (t:Wd):Nat:=t.s*2^t.q.toNat*10^(-t.X).toNat

def Wd.vd (t:Wd):Nat:=2^(-t.q).toNat*10^t.X.toNat

theorem Wd.vd_pos (t:Wd):0<t.vd:=Nat.mul_pos (Nat.pow_pos (by omega)) (Nat.pow_pos (by omega))

theorem Wd.cross (t : Wd) : t.vn * ud t.den t.X = un t.mid t.X * t.vd := by
  unfold Wd.vn Wd.vd un ud Wd.mid Wd.den
  have e : 2 ^ t.q.toNat * 2 ^ (2 - t.q).toNat = 4 * (2 ^ (t.q - 2).toNat * 2 ^ (-t.q).toNat) := by
    rw [show (4 : Nat) = 2 ^ 2 by rfl, <- Nat.pow_add, <- Nat.pow_add, <- Nat.pow_add]
    congr 1
    omega
  calc t.s * 2 ^ t.q.toNat * 10 ^ (-t.X).toNat * (2 ^ (2 - t.q).toNat * 10 ^ t.X.toNat) = t.s * (2 ^ t.q.toNat * 2 ^ (2 - t.q).toNat) * (10 ^ (-t.X).toNat * 10 ^ t.X.toNat) := by ac_rfl
    _ = t.s * (4 * (2 ^ (t.q - 2).toNat * 2 ^ (-t.q).toNat)) * (10 ^ (-t.X).toNat * 10 ^ t.X.toNat) := by rw [e]
    _ = 4 * t.s * 2 ^ (t.q - 2).toNat * 10 ^ (-t.X).toNat * (2 ^ (-t.q).toNat * 10 ^ t.X.toNat) := by ac_rfl

theorem sQ {a b c d k : Nat} (hb : 0 < b) (hd : 0 < d) (h : a * d = c * b) : (k * b <= a ↔ k * d <= c) := by
  constructor
  . intro hk;refine Nat.le_of_mul_le_mul_right (c := b) ?_ hb
    calc k * d * b = k * b * d := by ac_rfl
      _ <= a * d := Nat.mul_le_mul_right _ hk
      _ = c * b := h
  . intro hk;refine Nat.le_of_mul_le_mul_right (c := d) ?_ hd
    calc k * b * d = k * d * b := by ac_rfl
      _ <= c * b := Nat.mul_le_mul_right _ hk
      _ = a * d := h.symm

theorem KC {a b c d k : Nat} (hb : 0 < b) (hd : 0 < d) (h : a * d = c * b) : (a <= k * b ↔ c <= k * d) := by
  constructor
  . intro hk;refine Nat.le_of_mul_le_mul_right (c := b) ?_ hb
    calc c * b = a * d := h.symm
      _ <= k * b * d := Nat.mul_le_mul_right _ hk
      _ = k * d * b := by ac_rfl
  . intro hk;refine Nat.le_of_mul_le_mul_right (c := d) ?_ hd
    calc a * d = c * b := h
      _ <= k * d * b := Nat.mul_le_mul_right _ hk
      _ = k * b * d := by ac_rfl

theorem Wd.Ok.whole {t:Wd}(h:t.Ok):t.vn/t.vd=t.T t.X:=by
 have p:=iE h.den_pos t.X;have v:=t.vd_pos
 show _=un t.mid t.X/ud t.den t.X
 apply Nat.le_antisymm
 . rw[Nat.le_div_iff_mul_le p,<-sQ v p t.cross];exact Nat.div_mul_le_self _ _
 . rw[Nat.le_div_iff_mul_le v,sQ v p t.cross];exact Nat.div_mul_le_self _ _

def Wd.least (t:Wd):Nat:=if un t.lo t.X%ud t.den t.X≠0\/t.cl=false then un t.lo t.X/ud t.den t.X+1 else un t.lo t.X/ud t.den t.X

def Wd.most (t:Wd):Nat:=if un t.hi t.X%ud t.den t.X=0/\t.cl=false then un t.hi t.X/ud t.den t.X-1 else un t.hi t.X/ud t.den t.X

theorem Wd.Ok.side {t:Wd}(h:t.Ok)(z:Nat):
 (2*t.vn<(2*(t.T t.X/10^z)+1)*10^z*t.vd↔2*un t.mid (t.X+z)<(2*t.T (t.X+z)+1)*ud t.den (t.X+z))/\
 (2*t.vn=(2*(t.T t.X/10^z)+1)*10^z*t.vd↔2*un t.mid (t.X+z)=(2*t.T (t.X+z)+1)*ud t.den (t.X+z)):=by
 have p:=iE h.den_pos t.X;have v:=t.vd_pos;have e0:t.T (t.X+z)=t.T t.X/10^z:=pO _ _ h.den_pos _ _;rw[e0];generalize t.T t.X/10^z=d
 have c2:2*t.vn*ud t.den t.X=un (2*t.mid) t.X*t.vd:=by
  rw[sO,Nat.mul_assoc,Nat.mul_assoc,t.cross]
 have a1:=sQ (k:=(2*d+1)*10^z) v p c2;have a2:=KC (k:=(2*d+1)*10^z) v p c2;have b1:=LF (2*t.mid) t.den (2*d+1) h.den_pos t.X z;have b2:=QQ (2*t.mid) t.den (2*d+1) h.den_pos t.X z;rw[sO]at b1 b2;rw[sO]at a1 a2 b1 b2
 constructor<;>omega

def sd (v:Nat):List Nat:=((tl v).dropWhile (fun c=>decide (c=48))).reverse

end Go.Proofs.YtfdgkleoaehjaaaGreatDoor.M
namespace Go.Proofs.YtfdgkleoaehjaaaGreatDoor
open Go.RowKit
set_option linter.unusedVariables false
set_option maxRecDepth 100000

theorem OC (m:Int)(h1:-20000<=m)(h2:m<=20000):-7000<=M.uB m/\M.uB m<=7000:=by
 rcases Int.le_total 0 m with h|h
 . obtain⟨k,rfl⟩:=Int.eq_ofNat_of_zero_le h;rw[M.I8];omega
 . obtain⟨k,hk⟩:=Int.eq_ofNat_of_zero_le (show 0<= -m by omega);have e:m= -(k:Int):=by omega
   subst e;rw[M.IB];omega

end Go.Proofs.YtfdgkleoaehjaaaGreatDoor
