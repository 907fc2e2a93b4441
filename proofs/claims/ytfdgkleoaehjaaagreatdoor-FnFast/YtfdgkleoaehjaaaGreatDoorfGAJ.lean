import Derived.Test.YtfdgkleoaehjaaaGreatDoorfGAI
set_option maxHeartbeats 4000000
set_option maxRecDepth 100000
namespace Go.Proofs.YtfdgkleoaehjaaaGreatDoor
open Go.RowKit
set_option linter.unusedVariables false
set_option maxRecDepth 100000

theorem aZ {w w':World}(h:Below w.heap.size w w')(row:Option Nat):w.grownBy w' row:=⟨h.os,h.tape,h.output,h.size,fun k hk _=>h.block k hk⟩

theorem Rd.gb {w w':World}{ao:Option Addr}{xs:List Nat}{g:Nat}(h:Rd w ao xs)(hs:bH ao xs g)(hg:w.grownBy w' (some g)):Rd w' ao xs:=h.apart hg hs

theorem AN (g:Nat)(e0 e1 e2 e3 e4:Int)(e5:Bool)(a b:Option Addr)(c d N De Z:Nat)(q:Int)(w:World)(hB:Rb w g e0 e1 e2 e3 e4 e5 a (L N).length c b (L De).length d Z q)(ra:Rd w a (L N))(rb:Rd w b (L De))(sa:bH a (L N) g)(sb:bH b (L De) g)
 (E qm Q:Int)(he0:0<=e0)(he0':e0<=200)(hE1:-100000<=E)(hE2:E<=100000)(hQ:max (E-e0+1) qm=Q)(hQ1:-100000<=Q)(hQ2:Q<=100000)
 (kE:∀v:World,Rb v g e0 e1 e2 e3 e4 e5 a (L N).length c b (L De).length d Z q->Rd v a (L N)->Rd v b (L De)->Calls Tryz.prog 147 #[.pointer (some ⟨g,0,none⟩)] v fun e w'=>e=.returned (.int .i64 E)/\Below v.heap.size v w')
 (kQ:∀v:World,Calls Tryz.prog 76 #[.agg #[.int .i64 e0,.int .i64 e1,.int .i64 e2,.int .i64 e3,.int .i64 e4,.bool e5]] v fun e w'=>e=.returned (.int .i64 qm)/\Below v.heap.size v w')
 (s1 s2:Int)(hs1:max (-Q) 0=s1)(hs2:max Q 0=s2)(X Y:Nat)
 (kX:∀v:World,Rd v a (L N)->Calls Tryz.prog 116 #[.slice a (L N).length c,.int .i64 s1] v fun e w'=>Ret v w' e (L X))
 (kY:∀v:World,Rd v b (L De)->Calls Tryz.prog 116 #[.slice b (L De).length d,.int .i64 s2] v fun e w'=>Ret v w' e (L Y)):
 Calls Tryz.prog 127 #[.pointer (some ⟨g,0,none⟩)] w fun e w'=>(∃v,e=.returned v)/\∃(a1:Option Addr)(c1:Nat)(a2:Option Addr)(c2:Nat),Rb w' g e0 e1 e2 e3 e4 e5 a1 (L X).length c1 a2 (L Y).length c2 Z Q/\Rd w' a1 (L X)/\Rd w' a2 (L Y)/\bH a1 (L X) g/\bH a2 (L Y) g/\w.grownBy w' (some g):=by
 have w1:IntKind.i64.wrap (E-e0)=E-e0:=by rw[IntKind.wrap_i64];omega
 have w2:IntKind.i64.wrap (E-e0+1)=E-e0+1:=by rw[IntKind.wrap_i64];omega
 have w3:IntKind.i64.wrap (-Q)= -Q:=by rw[IntKind.wrap_i64];omega
 have hQ':(if E-e0+1<qm then qm else E-e0+1)=Q:=by split<;>omega
 have hs1':(if-Q<0 then 0 else-Q)=s1:=by split<;>omega
 have hs2':(if Q<0 then 0 else Q)=s2:=by split<;>omega
 have lg:g<w.heap.size:=Cls.lt hB;go_enter Tryz.func127,Tryz.ntmps127;go_upto_region 0 with fail
 go_cut[18] (fun x wx=>x=.pointer (some ⟨g,0,none⟩)/\Rb wx g e0 e1 e2 e3 e4 e5 a (L N).length c b (L De).length d Z Q/\w.grownBy wx (some g))
 case first=>
  have A0:Below w.heap.size w w.drew:=(Below.refl _ _).drew
  have KB:∀v,Below w.heap.size w v->(fun v=>v.cell? ⟨g,0,none⟩=some (.int .i64 e0)/\v.cell? ⟨g,1,none⟩=some (.int .i64 e1)/\v.cell? ⟨g,2,none⟩=some (.int .i64 e2)/\v.cell? ⟨g,3,none⟩=some (.int .i64 e3)/\v.cell? ⟨g,4,none⟩=some (.int .i64 e4)/\v.cell? ⟨g,5,none⟩=some (.bool e5)) v:=fun v hv=>⟨Cls.cell (hB.below hv) 0 rfl,Cls.cell (hB.below hv) 1 rfl,Cls.cell (hB.below hv) 2 rfl,Cls.cell (hB.below hv) 3 rfl,Cls.cell (hB.below hv) 4 rfl,Cls.cell (hB.below hv) 5 rfl⟩
  have KS:∀v x,Below w.heap.size w v->(fun v=>v.cell? ⟨g,0,none⟩=some (.int .i64 e0)/\v.cell? ⟨g,1,none⟩=some (.int .i64 e1)/\v.cell? ⟨g,2,none⟩=some (.int .i64 e2)/\v.cell? ⟨g,3,none⟩=some (.int .i64 e3)/\v.cell? ⟨g,4,none⟩=some (.int .i64 e4)/\v.cell? ⟨g,5,none⟩=some (.bool e5)) (v.setCell ⟨g,10,none⟩ x):=fun v x hv=>by
   have h:=Cls.set (hB.below hv) 10 x _ rfl;exact⟨h.cell 0 rfl,h.cell 1 rfl,h.cell 2 rfl,h.cell 3 rfl,h.cell 4 rfl,h.cell 5 rfl⟩
  go_region_held3 (fun v=>v.cell? ⟨g,0,none⟩=some (.int .i64 e0)/\v.cell? ⟨g,1,none⟩=some (.int .i64 e1)/\v.cell? ⟨g,2,none⟩=some (.int .i64 e2)/\v.cell? ⟨g,3,none⟩=some (.int .i64 e3)/\v.cell? ⟨g,4,none⟩=some (.int .i64 e4)/\v.cell? ⟨g,5,none⟩=some (.bool e5)) (first|with_reducible exact KB _ hb2|with_reducible exact KB _ hb1|with_reducible exact KB _ A0|with_reducible exact KS _ _ hb2)
   (first|(have hq:=hb1;clear hq;go_at_call 76;refine(kQ _).mono ?_;rintro e u2 ⟨rfl,hb0⟩;have hb2:=aK (w1:=w) hb1 hb0;clear hb0;have b10:=Cls.cell (hB.below hb2) 10 rfl;have f10:=Cls.frozen (hB.below hb2) 10)|(go_at_call 147;refine(kE _ (hB.below A0) (ra.below A0) (rb.below A0)).mono ?_;rintro e u1 ⟨rfl,hb0⟩;have hb1:=aK (w1:=w) A0 hb0;clear hb0))
  all_goals go_wp2_with fail
  all_goals go_meet
  all_goals exact⟨rfl,Cls.set (hB.below hb2) 10 _ _ rfl,aA (aZ hb2 _) (aD _ _ _ _)⟩
 case rest=>
 obtain⟨rfl,hB1,hg1⟩:=hcut;replace ra:=ra.gb sa hg1;replace rb:=rb.gb sb hg1;clear hB kE kQ;have lg1:g<wc.heap.size:=Cls.lt hB1;go_upto_region 1 with fail
 go_cut[32] (fun x wx=>x=.pointer (some ⟨g,0,none⟩)/\∃(a1:Option Addr)(c1:Nat),Rb wx g e0 e1 e2 e3 e4 e5 a1 (L X).length c1 b (L De).length d Z Q/\Rd wx a1 (L X)/\bH a1 (L X) g/\wc.grownBy wx (some g))
 case first=>
  have A0:Below wc.heap.size wc wc.drew:=(Below.refl _ _).drew;have c6:=Cls.cell (hB1.below A0) 6 rfl;have c10:=Cls.cell (hB1.below A0) 10 rfl;have d6:=Cls.cell hB1 6 rfl;have d10:=Cls.cell hB1 10 rfl
  go_region_with (first|(go_at_call 116;refine(kX _ (ra.below A0)).mono ?_;rintro e u1 ⟨x1,k1,rfl,o1,hb0⟩;have hb1:=aK (w1:=wc) A0 hb0;clear hb0;have b6:=Cls.cell (hB1.below hb1) 6 rfl;have f6:=Cls.frozen (hB1.below hb1) 6))
  all_goals go_wp2_with fail
  all_goals go_meet
  all_goals(have ap:=gT (g:=g) o1 lg1;exact⟨rfl,x1,k1,Cls.set (hB1.below hb1) 6 _ _ rfl,(Rd.own o1).apart (aD u1 g 6 _) ap,ap,aA (aZ hb1 _) (aD _ _ _ _)⟩)
 case rest=>
 rename_i wd
 obtain⟨rfl,x1,k1,hB2,rx,sx,hg2⟩:=hcut;replace rb:=rb.gb sb hg2;have hg12:=aA hg1 hg2;clear hB1 kX ra sa hg1 hg2;have lg2:g<wc.heap.size:=Cls.lt hB2;go_upto_region 2 with fail;have A0:Below wc.heap.size wc wc.drew:=(Below.refl _ _).drew;have c7:=Cls.cell (hB2.below A0) 7 rfl;have c10:=Cls.cell (hB2.below A0) 10 rfl;have d7:=Cls.cell hB2 7 rfl;have d10:=Cls.cell hB2 10 rfl
 go_region_with (first|(go_at_call 116;refine(kY _ (rb.below A0)).mono ?_;rintro e u1 ⟨x2,k2,rfl,o1,hb0⟩;have hb1:=aK (w1:=wc) A0 hb0;clear hb0;have b7:=Cls.cell (hB2.below hb1) 7 rfl;have f7:=Cls.frozen (hB2.below hb1) 7))
 all_goals go_wp2_with fail
 all_goals go_end0
 all_goals(have ap:=gT (g:=g) o1 lg2;have gg:=aA (aZ hb1 _) (aD u1 g 7 (.slice x2 (L Y).length k2));exact⟨⟨_,rfl⟩,x1,k1,x2,k2,Cls.set (hB2.below hb1) 7 _ _ rfl,rx.gb sx gg,(Rd.own o1).apart (aD u1 g 7 _) ap,sx,ap,aA hg12 gg⟩)

theorem Own.away {w:World}{lo hi:Nat}{ao:Option Addr}{cap:Nat}{r:List Nat}{g:Nat}(h:Own w lo hi ao cap r)(hg:g<lo):bH ao r g:=by
 intro hp b2 o2 e;obtain⟨g',e',_⟩:=sL h.row hp;rw[e]at e';simp only[Option.some.injEq,Addr.mk.injEq]at e';obtain⟨rfl,rfl,_⟩:=e';have:=(h.place b2 (by rw[e];rfl)).1;omega

theorem Rb.set2 {v:World}{g:Nat}{e0 e1 e2 e3 e4:Int}{e5:Bool}{a b:Option Addr}{n c m d Z:Nat}{q:Int}(h:Rb v g e0 e1 e2 e3 e4 e5 a n c b m d Z q)(Y:Nat):Rb ((v.setCell ⟨g,8,none⟩ (.int .u64 (M.hiN Y:Int))).setCell ⟨g,9,none⟩ (.int .u64 (M.loN Y:Int))) g e0 e1 e2 e3 e4 e5 a n c b m d Y q:=
 Cls.set (Cls.set h 8 _ _ rfl) 9 _ _ rfl

theorem BM (v:World)(g i j:Nat)(x y:Value):v.grownBy ((v.setCell ⟨g,i,none⟩ x).setCell ⟨g,j,none⟩ y) (some g):=aA (aD _ _ _ _) (aD _ _ _ _)

theorem GK (g:Nat)(e0 e1 e2 e3 e4:Int)(e5:Bool)(a b:Option Addr)(c d N De Z:Nat)(q:Int)(w:World)(hB:Rb w g e0 e1 e2 e3 e4 e5 a (L N).length c b (L De).length d Z q)(ra:Rd w a (L N))(rb:Rd w b (L De))(sa:bH a (L N) g)(sb:bH b (L De) g)
 (S0 R0:Nat)(kD:∀v:World,Rd v a (L N)->Rd v b (L De)->Calls Tryz.prog 148 #[.slice a (L N).length c,.slice b (L De).length d] v fun e w'=>RetD v w' e (L S0) (L R0))
 (kW:∀(v:World)(ao:Option Addr)(cc:Nat),Rd v ao (L S0)->Calls Tryz.prog 137 #[.slice ao (L S0).length cc] v fun e w'=>e=.returned (.agg #[.int .u64 (M.hiN S0:Int),.int .u64 (M.loN S0:Int)])/\Below v.heap.size v w')
 (kS:∀(v:World)(ao:Option Addr)(cc:Nat),Rd v ao (L R0)->Calls Tryz.prog 116 #[.slice ao (L R0).length cc,.int .i64 1] v fun e w'=>Ret v w' e (L (R0*2)))
 (cz:Int)(kC:∀(v:World)(ao:Option Addr)(cc:Nat),Rd v ao (L (R0*2))->Rd v b (L De)->Calls Tryz.prog 149 #[.slice ao (L (R0*2)).length cc,.slice b (L De).length d] v fun e w'=>e=.returned (.int .i64 cz)/\∃q,w'=v.drewN q)
 (kV:∀v:World,Calls Tryz.prog 150 #[.agg #[.int .u64 (M.hiN S0:Int),.int .u64 (M.loN S0:Int)]] v fun e w'=>e=.returned (.bool (decide (S0%2=0)))/\Below v.heap.size v w')
 (kP:∀v:World,Calls Tryz.prog 77 #[.agg #[.int .u64 (M.hiN S0:Int),.int .u64 (M.loN S0:Int)],.agg #[.int .u64 0,.int .u64 1]] v fun e w'=>e=.returned (.agg #[.int .u64 (M.hiN (S0+1):Int),.int .u64 (M.loN (S0+1):Int)])/\Below v.heap.size v w')
 (S1:Nat)(hS1:S1=if 0<cz\/(cz=0/\S0%2=1)then S0+1 else S0):
 Calls Tryz.prog 128 #[.pointer (some ⟨g,0,none⟩)] w fun e w'=>(∃v,e=.returned v)/\Rb w' g e0 e1 e2 e3 e4 e5 a (L N).length c b (L De).length d S1 q/\w.grownBy w' (some g):=by
 have HS1:=hid hS1;clear hS1;have lg:g<w.heap.size:=Cls.lt hB;go_enter Tryz.func128,Tryz.ntmps128;go_upto_region 0 with fail
 go_cut[2,3] (fun x y wx=>∃(a1:Option Addr)(c1:Nat)(a2:Option Addr)(c2:Nat),x=.slice a1 (L S0).length c1/\y=.slice a2 (L R0).length c2/\Rd wx a1 (L S0)/\Rd wx a2 (L R0)/\bH a2 (L R0) g/\Below w.heap.size w wx)
 case first=>
  have A0:Below w.heap.size w w.drew:=(Below.refl _ _).drew;have c6:=Cls.cell (hB.below A0) 6 rfl;have c7:=Cls.cell (hB.below A0) 7 rfl;have d6:=Cls.cell hB 6 rfl;have d7:=Cls.cell hB 7 rfl
  go_region_with (first|(go_at_call 148;refine(kD _ (ra.below A0) (rb.below A0)).mono ?_;rintro e u1 ⟨a1,c1,a2,c2,mid,rfl,g1,g2,o1,o2,hb0⟩;have hb1:=aK (w1:=w) A0 hb0;clear hb0))
  all_goals go_wp2_with fail
  all_goals go_meet
  all_goals exact⟨a1,c1,a2,c2,rfl,rfl,o1.rd,o2.rd,o2.away (Nat.lt_of_lt_of_le lg g1),hb1⟩
 case rest=>
 obtain⟨a1,c1,a2,c2,rfl,rfl,r1,r2,s2,hbx⟩:=hcut;replace hB:=hB.below hbx;replace rb:=rb.below hbx;clear kD ra sa;go_wp2_with fail;refine(kW _ _ _ r1).mono ?_;rintro e v2 ⟨rfl,hb2⟩;replace hB:=hB.below hb2;replace rb:=rb.below hb2;replace r2:=r2.below hb2;replace hbx:=hbx.trans (hb2.mono hbx.size);clear kW r1 hb2;have b8:=Cls.cell hB 8 rfl;have b9:=Cls.cell hB 9 rfl;have f8:=Cls.frozen hB 8;have f9:=Cls.frozen hB 9;go_upto_region 2 with fail;clear b8 b9 f8 f9;have gg:=BM v2 g 8 9 (.int .u64 (M.hiN S0:Int)) (.int .u64 (M.loN S0:Int));replace hB:=hB.set2 S0;replace rb:=rb.gb sb gg;replace r2:=r2.gb s2 gg;have hg:=aA (aZ hbx (some g)) gg;clear gg hbx;generalize((v2.setCell ⟨g,8,none⟩ (.int .u64 (M.hiN S0:Int))).setCell ⟨g,9,none⟩ (.int .u64 (M.loN S0:Int)))=v3 at*
 go_cut[4] (fun x wx=>x=.int .i64 cz/\Below v3.heap.size v3 wx)
 case first=>
  have A0:Below v3.heap.size v3 v3.drew:=(Below.refl _ _).drew
  have KB:∀v,Below v3.heap.size v3 v->(fun v=>v.cell? ⟨g,7,none⟩=some (.slice b (L De).length d)) v:=fun v hv=>Cls.cell (hB.below hv) 7 rfl
  go_region_held3 (fun v=>v.cell? ⟨g,7,none⟩=some (.slice b (L De).length d)) (first|with_reducible exact KB _ hb2|with_reducible exact KB _ hb1|with_reducible exact KB _ A0)
   (first|(have hq:=hb1;clear hq;go_at_call 149;refine(kC _ _ _ rt (rb.below hb1)).mono ?_;rintro e u2 ⟨rfl,qq,hu2⟩;have hb2:=LI (w1:=v3) hb1 hu2;clear hu2)|(go_at_call 116;refine(kS _ _ _ (r2.below A0)).mono ?_;rintro e u1 ⟨x1,k1,rfl,o1,hb0⟩;have hb1:=aK (w1:=v3) A0 hb0;have rt:=Rd.own o1;clear hb0 o1))
  all_goals go_wp2_with fail
  all_goals go_meet
  all_goals exact⟨rfl,hb2⟩
 case rest=>
 obtain⟨rfl,hbx⟩:=hcut;replace hB:=hB.below hbx;replace hg:=aA hg (aZ hbx (some g));clear kS kC r2 rb s2 sb hbx;go_upto_region 3 with fail
 go_cut[42] (fun x wx=>x=.bool (decide (0<cz\/(cz=0/\S0%2=1)))/\Below wc.heap.size wc wx)
 case first=>
  by_cases hp:0<cz
  . have e1:decide (0<cz\/(cz=0/\S0%2=1))=true:=decide_eq_true (.inl hp);have E1:=hid e1;clear e1;go_wp2_with fail;go_meet
    case rel=>exact⟨by rw[E1.out],Below.refl _ _⟩
  . by_cases hz:cz=0
    . have hzb:(cz==0)=true:=by simp[hz]
      have e1:decide (0<cz\/(cz=0/\S0%2=1))=!(decide (S0%2=0)):=by
       rw[Bool.eq_iff_iff];simp only[decide_eq_true_eq,Bool.not_eq_true',decide_eq_false_iff_not];omega
      have HZ:=hid hz;clear hz;have E1:=hid e1;clear e1;have b8:=Cls.cell hB 8 rfl;have b9:=Cls.cell hB 9 rfl;generalize hbz:decide (S0%2=0)=bz at*
      go_wp2_with (go_at_call 150;refine(kV _).mono ?_;rintro e v9 ⟨rfl,hb9⟩)
      go_meet
      case rel=>exact⟨by rw[E1.out],hb9⟩
    . have hzb:(cz==0)=false:=by simp[hz]
      have e1:decide (0<cz\/(cz=0/\S0%2=1))=false:=decide_eq_false (by omega);have E1:=hid e1;clear e1;go_wp2_with fail;go_meet
      case rel=>exact⟨by rw[E1.out],Below.refl _ _⟩
 case rest=>
 obtain⟨rfl,hbx⟩:=hcut;replace hB:=hB.below hbx;replace hg:=aA hg (aZ hbx (some g));clear kV hbx;have h:=HS1.out
 by_cases hp:0<cz\/(cz=0/\S0%2=1)
 . rw[if_pos hp]at h;have e1:decide (0<cz\/(cz=0/\S0%2=1))=true:=decide_eq_true hp;rw[e1];have HP:=hid hp;have H:=hid h;clear hp h e1;have b8:=Cls.cell hB 8 rfl;have b9:=Cls.cell hB 9 rfl;go_wp2_with fail;refine(kP _).mono ?_;rintro e v4 ⟨rfl,hb4⟩;replace hB:=hB.below hb4;replace hg:=aA hg (aZ hb4 (some g));clear b8 b9 kP hb4;have b8:=Cls.cell hB 8 rfl;have b9:=Cls.cell hB 9 rfl;have f8:=Cls.frozen hB 8;have f9:=Cls.frozen hB 9;have HH:=hid (And.intro (hB.set2 (S0+1)) (aA hg (BM v4 g 8 9 (.int .u64 (M.hiN (S0+1):Int)) (.int .u64 (M.loN (S0+1):Int)))));clear hB hg;go_wp2_with fail
   go_end0
   exact⟨⟨_,rfl⟩,by rw[H.out];exact HH.out.1,HH.out.2⟩
 . rw[if_neg hp]at h;have e1:decide (0<cz\/(cz=0/\S0%2=1))=false:=decide_eq_false hp;rw[e1];have HP:=hid hp;have H:=hid h;clear hp h e1;have HH:=hid (And.intro hB hg);clear hB hg;go_wp2_with fail
   go_end0
   exact⟨⟨_,rfl⟩,by rw[H.out];exact HH.out.1,HH.out.2⟩

theorem A4 (g:Nat)(e0 e1 e2 e3 e4:Int)(e5:Bool)(a b:Option Addr)(n c m d S1:Nat)(q:Int)(w:World)(hB:Rb w g e0 e1 e2 e3 e4 e5 a n c b m d S1 q)
 (B Ld:Nat)(kA:∀v:World,Calls Tryz.prog 95 #[.int .i64 e0] v fun e w'=>e=.returned (.agg #[.int .u64 (M.hiN B:Int),.int .u64 (M.loN B:Int)])/\Below v.heap.size v w')(kL:∀v:World,Calls Tryz.prog 94 #[.agg #[.int .i64 e0,.int .i64 e1,.int .i64 e2,.int .i64 e3,.int .i64 e4,.bool e5]] v fun e w'=>e=.returned (.agg #[.int .u64 (M.hiN Ld:Int),.int .u64 (M.loN Ld:Int)])/\Below v.heap.size v w')
 (hq1:-100000<=q)(hq2:q<=100001)(S:Nat)(X:Int)(hS:S=if S1=B then Ld else S1)(hX:X=if S1=B then q+1 else q):
 Calls Tryz.prog 129 #[.pointer (some ⟨g,0,none⟩)] w fun e w'=>(∃v,e=.returned v)/\Rb w' g e0 e1 e2 e3 e4 e5 a n c b m d S X/\w.grownBy w' (some g):=by
 have HS:=hid hS;have HX:=hid hX;clear hS hX;have w1:IntKind.i64.wrap (q+1)=q+1:=by rw[IntKind.wrap_i64];omega
 go_enter Tryz.func129,Tryz.ntmps129;go_upto_region 0 with fail
 go_cut[12] (fun x wx=>x=.bool (decide (S1=B))/\Below w.heap.size w wx)
 case first=>
  have A0:Below w.heap.size w w.drew:=(Below.refl _ _).drew
  have KB:∀v,Below w.heap.size w v->(fun v=>v.cell? ⟨g,8,none⟩=some (.int .u64 (M.hiN S1:Int))/\v.cell? ⟨g,9,none⟩=some (.int .u64 (M.loN S1:Int))/\v.cell? ⟨g,0,none⟩=some (.int .i64 e0)) v:=fun v hv=>⟨Cls.cell (hB.below hv) 8 rfl,Cls.cell (hB.below hv) 9 rfl,Cls.cell (hB.below hv) 0 rfl⟩
  by_cases heq:S1=B
  . have E1:Hid (decide (S1=B)=true):=decide_eq_true heq;subst heq
    go_region_held3 (fun v=>v.cell? ⟨g,8,none⟩=some (.int .u64 (M.hiN S1:Int))/\v.cell? ⟨g,9,none⟩=some (.int .u64 (M.loN S1:Int))/\v.cell? ⟨g,0,none⟩=some (.int .i64 e0)) (first|with_reducible exact KB _ hb1|with_reducible exact KB _ A0) (first|(go_at_call 95;refine(kA _).mono ?_;rintro e u1 ⟨rfl,hb0⟩;have hb1:=aK (w1:=w) A0 hb0;clear hb0))
    all_goals go_wp2_with fail
    all_goals go_meet
    all_goals exact⟨by rw[E1.out],hb1⟩
  . have E1:Hid (decide (S1=B)=false):=decide_eq_false heq
    by_cases q0:M.hiN S1=M.hiN B
    . have q1:¬M.loN S1=M.loN B:=fun hh=>heq (M.NX q0 hh)
      have q2:((M.loN S1:Int)==(M.loN B:Int))=false:=by simp;omega
      have q3:((M.hiN S1:Int)==(M.hiN B:Int))=true:=by simp;omega
      have H0:=hid q0;have H1:=hid q1;have H2:=hid heq;clear q0 q1 heq
      go_region_held3 (fun v=>v.cell? ⟨g,8,none⟩=some (.int .u64 (M.hiN S1:Int))/\v.cell? ⟨g,9,none⟩=some (.int .u64 (M.loN S1:Int))/\v.cell? ⟨g,0,none⟩=some (.int .i64 e0)) (first|with_reducible exact KB _ hb1|with_reducible exact KB _ A0) (first|(go_at_call 95;refine(kA _).mono ?_;rintro e u1 ⟨rfl,hb0⟩;have hb1:=aK (w1:=w) A0 hb0;clear hb0))
      all_goals go_wp2_with fail
      all_goals go_meet
      all_goals exact⟨by rw[E1.out],hb1⟩
    . have q2:((M.hiN S1:Int)==(M.hiN B:Int))=false:=by simp;omega
      have H0:=hid q0;have H2:=hid heq;clear q0 heq
      go_region_held3 (fun v=>v.cell? ⟨g,8,none⟩=some (.int .u64 (M.hiN S1:Int))/\v.cell? ⟨g,9,none⟩=some (.int .u64 (M.loN S1:Int))/\v.cell? ⟨g,0,none⟩=some (.int .i64 e0)) (first|with_reducible exact KB _ hb1|with_reducible exact KB _ A0) (first|(go_at_call 95;refine(kA _).mono ?_;rintro e u1 ⟨rfl,hb0⟩;have hb1:=aK (w1:=w) A0 hb0;clear hb0))
      all_goals go_wp2_with fail
      all_goals go_meet
      all_goals exact⟨by rw[E1.out],hb1⟩
 case rest=>
 obtain⟨rfl,hbx⟩:=hcut;replace hB:=hB.below hbx;have hg:=aZ hbx (some g);clear hbx kA;have h1:=HS.out;have h2:=HX.out
 by_cases heq:S1=B
 . rw[if_pos heq]at h1 h2;have e1:decide (S1=B)=true:=decide_eq_true heq;rw[e1];have H0:=hid heq;have H1:=hid h1;have H2:=hid h2;clear heq h1 h2 e1;have b0:=Cls.cell hB 0 rfl;have b1:=Cls.cell hB 1 rfl;have b2:=Cls.cell hB 2 rfl;have b3:=Cls.cell hB 3 rfl;have b4:=Cls.cell hB 4 rfl;have b5:=Cls.cell hB 5 rfl;go_wp2_with fail;refine(kL _).mono ?_;rintro e v2 ⟨rfl,hb2⟩;replace hB:=hB.below hb2;replace hg:=aA hg (aZ hb2 (some g));clear hb2 b0 b1 b2 b3 b4 b5 kL;have b8:=Cls.cell hB 8 rfl;have b9:=Cls.cell hB 9 rfl;have f8:=Cls.frozen hB 8;have f9:=Cls.frozen hB 9;go_upto_region 2 with fail;clear b8 b9 f8 f9;replace hB:=hB.set2 Ld;replace hg:=aA hg (BM v2 g 8 9 (.int .u64 (M.hiN Ld:Int)) (.int .u64 (M.loN Ld:Int)));generalize((v2.setCell ⟨g,8,none⟩ (.int .u64 (M.hiN Ld:Int))).setCell ⟨g,9,none⟩ (.int .u64 (M.loN Ld:Int)))=v3 at*;have b10:=Cls.cell hB 10 rfl;have f10:=Cls.frozen hB 10;have HH:=hid (And.intro (Cls.set hB 10 (.int .i64 (q+1)) _ rfl) (aA hg (aD v3 g 10 (.int .i64 (q+1)))));clear hB hg;go_wp2_with fail
   go_end0
   refine⟨⟨_,rfl⟩,?_,HH.out.2⟩;rw[H1.out,H2.out];exact HH.out.1
 . rw[if_neg heq]at h1 h2;have e1:decide (S1=B)=false:=decide_eq_false heq;rw[e1];have H0:=hid heq;have H1:=hid h1;have H2:=hid h2;clear heq h1 h2 e1;have HH:=hid (And.intro hB hg);clear hB hg;go_wp2_with fail
   go_end0
   refine⟨⟨_,rfl⟩,?_,HH.out.2⟩;rw[H1.out,H2.out];exact HH.out.1

end Go.Proofs.YtfdgkleoaehjaaaGreatDoor
namespace Go.Proofs.YtfdgkleoaehjaaaGreatDoor
open Go.RowKit
set_option linter.unusedVariables false
set_option maxRecDepth 100000

theorem bx5 {W:World}{g:Nat}{xs:Array Value}{t:TypeId}(R:Cls W g xs t)(hx:xs.size=5)(a b c d e:Value):
 Cls (((((W.setCell ⟨g,0,none⟩ a).setCell ⟨g,1,none⟩ b).setCell ⟨g,2,none⟩ c).setCell ⟨g,3,none⟩ d).setCell ⟨g,4,none⟩ e) g #[a,b,c,d,e] t:=by
 refine((((R.set 0 a _ rfl).set 1 b _ rfl).set 2 c _ rfl).set 3 d _ rfl).set 4 e _ ?_;obtain⟨l⟩:=xs
 match l,hx with
 |[x0,x1,x2,x3,x4],_=>rfl

theorem bw5 {B:Nat}{w W:World}(h:Below B w W)(g:Nat)(hg:B<=g)(a b c d e:Value):Below B w (((((W.setCell ⟨g,0,none⟩ a).setCell ⟨g,1,none⟩ b).setCell ⟨g,2,none⟩ c).setCell ⟨g,3,none⟩ d).setCell ⟨g,4,none⟩ e):=
 ((((h.setCell (p:=⟨g,0,none⟩) hg _).setCell (p:=⟨g,1,none⟩) hg _).setCell (p:=⟨g,2,none⟩) hg _).setCell (p:=⟨g,3,none⟩) hg _).setCell (p:=⟨g,4,none⟩) hg _

theorem DV (g:Nat)(e0 e1 e2 e3 e4:Int)(e5:Bool)(a b:Option Addr)(n c m d:Nat)(q:Int)(w:World)(hB:Rb w g e0 e1 e2 e3 e4 e5 a n c b m d 0 q):
 Calls Tryz.prog 130 #[.pointer (some ⟨g,0,none⟩)] w fun e w'=>e=.returned (.tuple #[.agg #[.int .i64 1,.bool false,.int .u64 0,.int .u64 0,.int .i64 0],.int .i64 2])/\Below w.heap.size w w':=by
 have b0:Below w.heap.size w (w.alloc (.cells #[.int .i64 0,.bool false,.int .u64 0,.int .u64 0,.int .i64 0] 67)):=(Below.refl _ _).alloc (Nat.le_refl _) _;have hP:Cls (w.alloc (.cells #[.int .i64 0,.bool false,.int .u64 0,.int .u64 0,.int .i64 0] 67)) w.heap.size #[.int .i64 0,.bool false,.int .u64 0,.int .u64 0,.int .i64 0] 67:=Cls.new _ _ _;have lg:g<w.heap.size:=Cls.lt hB;replace hB:=hB.below b0;generalize hV:(w.alloc (.cells #[.int .i64 0,.bool false,.int .u64 0,.int .u64 0,.int .i64 0] 67))=v0 at*;go_enter Tryz.func130,Tryz.ntmps130;go_upto_region 1 with fail;clear hV;have b8:=Cls.cell hB 8 rfl;have b9:=Cls.cell hB 9 rfl;rw[hi0]at b8;rw[lo0]at b9;have p0:=hP.cell 0 rfl;have g0:=hP.frozen 0;have p1:=hP.cell 1 rfl;have g1:=hP.frozen 1;have p2:=hP.cell 2 rfl;have g2:=hP.frozen 2;have p3:=hP.cell 3 rfl;have g3:=hP.frozen 3;have p4:=hP.cell 4 rfl;have g4:=hP.frozen 4;go_wp2_with fail;have R4:=Cls.set (Cls.set (Cls.set (Cls.set (Cls.set hP 0 (.int .i64 1) _ rfl) 1 (.bool false) _ rfl) 2 (.int .u64 0) _ rfl) 3 (.int .u64 0) _ rfl) 4 (.int .i64 0) #[.int .i64 1,.bool false,.int .u64 0,.int .u64 0,.int .i64 0] rfl;have B4:=(((((b0).setCell (p:=⟨w.heap.size,0,none⟩) (Nat.le_refl _) (.int .i64 1)).setCell (p:=⟨w.heap.size,1,none⟩) (Nat.le_refl _) (.bool false)).setCell (p:=⟨w.heap.size,2,none⟩) (Nat.le_refl _) (.int .u64 0)).setCell (p:=⟨w.heap.size,3,none⟩) (Nat.le_refl _) (.int .u64 0)).setCell (p:=⟨w.heap.size,4,none⟩) (Nat.le_refl _) (.int .i64 0);have R5:=R4;have B5:=B4;clear R4 B4;generalize(((((v0.setCell ⟨w.heap.size,0,none⟩ (.int .i64 1)).setCell ⟨w.heap.size,1,none⟩ (.bool false)).setCell ⟨w.heap.size,2,none⟩ (.int .u64 0)).setCell ⟨w.heap.size,3,none⟩ (.int .u64 0)).setCell ⟨w.heap.size,4,none⟩ (.int .i64 0))=Yw at R5 B5|-;have q0:=R5.cell 0 rfl;have q1:=R5.cell 1 rfl;have q2:=R5.cell 2 rfl;have q3:=R5.cell 3 rfl;have q4:=R5.cell 4 rfl;exact bodyPost_ret (v:=.tuple #[.agg #[.int .i64 1,.bool false,.int .u64 0,.int .u64 0,.int .i64 0],.int .i64 2]) (by simp[results,Tryz.results130,go_sem,q0,q1,q2,q3,q4]) rfl ⟨rfl,B5⟩

theorem CF (g:Nat)(e0 e1 e2 e3 e4:Int)(e5:Bool)(a b:Option Addr)(n c m d S:Nat)(q:Int)(w:World)(hB:Rb w g e0 e1 e2 e3 e4 e5 a n c b m d S q)(hS:¬S=0)(Ld:Nat)(cz:Int)(kL:∀v:World,Calls Tryz.prog 94 #[.agg #[.int .i64 e0,.int .i64 e1,.int .i64 e2,.int .i64 e3,.int .i64 e4,.bool e5]] v fun e w'=>e=.returned (.agg #[.int .u64 (M.hiN Ld:Int),.int .u64 (M.loN Ld:Int)])/\Below v.heap.size v w')(kC:∀v:World,Calls Tryz.prog 32 #[.agg #[.int .u64 (M.hiN S:Int),.int .u64 (M.loN S:Int)],.agg #[.int .u64 (M.hiN Ld:Int),.int .u64 (M.loN Ld:Int)]] v fun e w'=>e=.returned (.int .i64 cz)/\Below v.heap.size v w')(K FL A B Q:Int)(hc:(cz<0/\K=2/\FL=2/\A=(M.hiN S:Int)/\B=(M.loN S:Int)/\Q=q)\/(¬cz<0/\(-100000<=q/\q<=200000/\0<=e0/\e0<=200)/\((e2<q+e0-1/\K=4/\FL=1/\A=0/\B=0/\Q=0)\/(¬e2<q+e0-1/\K=3/\FL=0/\A=(M.hiN S:Int)/\B=(M.loN S:Int)/\Q=q)))):
 Calls Tryz.prog 130 #[.pointer (some ⟨g,0,none⟩)] w fun e w'=>e=.returned (.tuple #[.agg #[.int .i64 K,.bool false,.int .u64 A,.int .u64 B,.int .i64 Q],.int .i64 FL])/\Below w.heap.size w w':=by
 have HC:=hid hc;clear hc;have b0:Below w.heap.size w (w.alloc (.cells #[.int .i64 0,.bool false,.int .u64 0,.int .u64 0,.int .i64 0] 67)):=(Below.refl _ _).alloc (Nat.le_refl _) _;have hP:Cls (w.alloc (.cells #[.int .i64 0,.bool false,.int .u64 0,.int .u64 0,.int .i64 0] 67)) w.heap.size #[.int .i64 0,.bool false,.int .u64 0,.int .u64 0,.int .i64 0] 67:=Cls.new _ _ _;have lg:g<w.heap.size:=Cls.lt hB;replace hB:=hB.below b0;generalize hV:(w.alloc (.cells #[.int .i64 0,.bool false,.int .u64 0,.int .u64 0,.int .i64 0] 67))=v0 at*;go_enter Tryz.func130,Tryz.ntmps130;go_upto_region 1 with fail;clear hV;have E1:Hid (¬S=0):=hS
 go_cut[4] (fun x wx=>x=.bool false/\wx=v0)
 case first=>
  have b8:=Cls.cell hB 8 rfl;have b9:=Cls.cell hB 9 rfl
  by_cases q0:M.hiN S=0
  . have q1:¬M.loN S=0:=fun hh=>hS (M.NX (q0.trans hi0.symm) (hh.trans lo0.symm))
    have q2:((M.loN S:Int)==0)=false:=by simp;omega
    have q3:((M.hiN S:Int)==0)=true:=by simp;omega
    have H0:=hid q0;have H1:=hid q1;clear q0 q1 hS;go_wp2_with fail;go_meet
    case rel=>exact⟨rfl,rfl⟩
  . have q2:((M.hiN S:Int)==0)=false:=by simp;omega
    have H0:=hid q0;clear q0 hS;go_wp2_with fail;go_meet
    case rel=>exact⟨rfl,rfl⟩
 case rest=>
 obtain⟨rfl,rfl⟩:=hcut;clear hS;go_upto_region 3 with fail
 go_cut[12] (fun x wx=>x=.bool (decide (cz<0))/\Below wc.heap.size wc wx)
 case first=>
  have A0:Below wc.heap.size wc wc.drew:=(Below.refl _ _).drew
  have KB:∀v,Below wc.heap.size wc v->(fun v=>v.cell? ⟨g,8,none⟩=some (.int .u64 (M.hiN S:Int))/\v.cell? ⟨g,9,none⟩=some (.int .u64 (M.loN S:Int))/\v.cell? ⟨g,0,none⟩=some (.int .i64 e0)/\v.cell? ⟨g,1,none⟩=some (.int .i64 e1)/\v.cell? ⟨g,2,none⟩=some (.int .i64 e2)/\v.cell? ⟨g,3,none⟩=some (.int .i64 e3)/\v.cell? ⟨g,4,none⟩=some (.int .i64 e4)/\v.cell? ⟨g,5,none⟩=some (.bool e5)) v:=fun v hv=>⟨Cls.cell (hB.below hv) 8 rfl,Cls.cell (hB.below hv) 9 rfl,Cls.cell (hB.below hv) 0 rfl,Cls.cell (hB.below hv) 1 rfl,Cls.cell (hB.below hv) 2 rfl,Cls.cell (hB.below hv) 3 rfl,Cls.cell (hB.below hv) 4 rfl,Cls.cell (hB.below hv) 5 rfl⟩
  go_region_held3 (fun v=>v.cell? ⟨g,8,none⟩=some (.int .u64 (M.hiN S:Int))/\v.cell? ⟨g,9,none⟩=some (.int .u64 (M.loN S:Int))/\v.cell? ⟨g,0,none⟩=some (.int .i64 e0)/\v.cell? ⟨g,1,none⟩=some (.int .i64 e1)/\v.cell? ⟨g,2,none⟩=some (.int .i64 e2)/\v.cell? ⟨g,3,none⟩=some (.int .i64 e3)/\v.cell? ⟨g,4,none⟩=some (.int .i64 e4)/\v.cell? ⟨g,5,none⟩=some (.bool e5)) (first|with_reducible exact KB _ hb2|with_reducible exact KB _ hb1|with_reducible exact KB _ A0) (first|(have hq:=hb1;clear hq;go_at_call 32;refine(kC _).mono ?_;rintro e u2 ⟨rfl,hb0⟩;have hb2:=aK (w1:=wc) hb1 hb0;clear hb0)|(go_at_call 94;refine(kL _).mono ?_;rintro e u1 ⟨rfl,hb0⟩;have hb1:=aK (w1:=wc) A0 hb0;clear hb0))
  all_goals go_wp2_with fail
  all_goals go_meet
  all_goals exact⟨rfl,hb2⟩
 case rest=>
 obtain⟨rfl,hbx⟩:=hcut;replace hB:=hB.below hbx;replace hP:=hP.below hbx;replace b0:=b0.trans (hbx.mono b0.size);clear hbx kL kC;rcases HC.out with⟨hcz,y0,y1,y2,y3,y4⟩|⟨hcz,⟨hq1,hq2,he1,he2⟩,⟨hov,y0,y1,y2,y3,y4⟩|⟨hov,y0,y1,y2,y3,y4⟩⟩;go_upto_region 4 with fail;rotate_left;have w9:IntKind.i64.wrap (q+e0)=q+e0:=by rw[IntKind.wrap_i64];omega
 have w10:IntKind.i64.wrap (q+e0-1)=q+e0-1:=by rw[IntKind.wrap_i64];omega
 go_upto_region 5 with fail;have b10:=Cls.cell hB 10 rfl;have b0':=Cls.cell hB 0 rfl;have b2':=Cls.cell hB 2 rfl
 go_quiet(fail)
 replace hB:=hB.below (mO _ nq);replace hP:=hP.below (mO _ nq);replace b0:=b0.trans ((mO _ nq).mono b0.size);generalize wc.drewN nq=wc at*;clear b10 b0' b2';have p0:=hP.cell 0 rfl;have g0:=hP.frozen 0;have p1:=hP.cell 1 rfl;have g1:=hP.frozen 1;have p2:=hP.cell 2 rfl;have g2:=hP.frozen 2;have p3:=hP.cell 3 rfl;have g3:=hP.frozen 3;have p4:=hP.cell 4 rfl;have g4:=hP.frozen 4
 have q0:=fun x0 x1 x2 x3 x4=>(bx5 hP rfl x0 x1 x2 x3 x4).cell 0 rfl
 have q1:=fun x0 x1 x2 x3 x4=>(bx5 hP rfl x0 x1 x2 x3 x4).cell 1 rfl
 have q2:=fun x0 x1 x2 x3 x4=>(bx5 hP rfl x0 x1 x2 x3 x4).cell 2 rfl
 have q3:=fun x0 x1 x2 x3 x4=>(bx5 hP rfl x0 x1 x2 x3 x4).cell 3 rfl
 have q4:=fun x0 x1 x2 x3 x4=>(bx5 hP rfl x0 x1 x2 x3 x4).cell 4 rfl
 have HB:=hid b0;clear b0 HC;go_wp2_with fail;exact bodyPost_ret (v:=.tuple #[.agg #[.int .i64 K,.bool false,.int .u64 A,.int .u64 B,.int .i64 Q],.int .i64 FL]) (by simp[results,Tryz.results130,go_sem,q0,q1,q2,q3,q4,y0,y1,y2,y3,y4]) rfl ⟨rfl,by first|exact bw5 HB.out _ (Nat.le_refl _) _ _ _ _ _|exact(bw5 HB.out _ (Nat.le_refl _) _ _ _ _ _).drew⟩;have w9:IntKind.i64.wrap (q+e0)=q+e0:=by rw[IntKind.wrap_i64];omega
 have w10:IntKind.i64.wrap (q+e0-1)=q+e0-1:=by rw[IntKind.wrap_i64];omega
 go_upto_region 5 with fail;have b10:=Cls.cell hB 10 rfl;have b0':=Cls.cell hB 0 rfl;have b2':=Cls.cell hB 2 rfl
 go_quiet(fail)
 replace hB:=hB.below (mO _ nq);replace hP:=hP.below (mO _ nq);replace b0:=b0.trans ((mO _ nq).mono b0.size);generalize wc.drewN nq=wc at*;clear b10 b0' b2';go_upto_region 7 with fail
 all_goals(
  have A0:Below wc.heap.size wc wc.drew:=(Below.refl _ _).drew;have b8:=Cls.cell hB 8 rfl;have b9:=Cls.cell hB 9 rfl;have b10:=Cls.cell hB 10 rfl;have c8:=Cls.cell (hB.below A0) 8 rfl;have c9:=Cls.cell (hB.below A0) 9 rfl;have c10:=Cls.cell (hB.below A0) 10 rfl;have p0:=hP.cell 0 rfl;have g0:=hP.frozen 0;have p1:=hP.cell 1 rfl;have g1:=hP.frozen 1;have p2:=hP.cell 2 rfl;have g2:=hP.frozen 2;have p3:=hP.cell 3 rfl;have g3:=hP.frozen 3;have p4:=hP.cell 4 rfl;have g4:=hP.frozen 4;have hP':=hP.below A0;have r0:=hP'.cell 0 rfl;have s0:=hP'.frozen 0;have r1:=hP'.cell 1 rfl;have s1:=hP'.frozen 1;have r2:=hP'.cell 2 rfl;have s2:=hP'.frozen 2;have r3:=hP'.cell 3 rfl;have s3:=hP'.frozen 3;have r4:=hP'.cell 4 rfl;have s4:=hP'.frozen 4
  have q0:=fun x0 x1 x2 x3 x4=>(bx5 hP rfl x0 x1 x2 x3 x4).cell 0 rfl
  have q1:=fun x0 x1 x2 x3 x4=>(bx5 hP rfl x0 x1 x2 x3 x4).cell 1 rfl
  have q2:=fun x0 x1 x2 x3 x4=>(bx5 hP rfl x0 x1 x2 x3 x4).cell 2 rfl
  have q3:=fun x0 x1 x2 x3 x4=>(bx5 hP rfl x0 x1 x2 x3 x4).cell 3 rfl
  have q4:=fun x0 x1 x2 x3 x4=>(bx5 hP rfl x0 x1 x2 x3 x4).cell 4 rfl
  have HB:=hid b0;clear b0 HC
  go_region_with (fail)
  all_goals go_wp2_with fail
  all_goals exact bodyPost_ret (v:=.tuple #[.agg #[.int .i64 K,.bool false,.int .u64 A,.int .u64 B,.int .i64 Q],.int .i64 FL]) (by simp[results,Tryz.results130,go_sem,q0,q1,q2,q3,q4,y0,y1,y2,y3,y4]) rfl ⟨rfl,by first|exact bw5 HB.out _ (Nat.le_refl _) _ _ _ _ _|exact(bw5 HB.out _ (Nat.le_refl _) _ _ _ _ _).drew⟩)

theorem eE (w:World)(cs:Array Value)(t:TypeId):∃v,w.alloc (.cells cs t)=v/\Cls v w.heap.size cs t/\Below w.heap.size w v/\v.heap.size=w.heap.size+1:=
 ⟨_,rfl,Cls.new w cs t,(Below.refl _ _).alloc (Nat.le_refl _) _,World.size_alloc _ _⟩

theorem new2 (w:World)(cs:Array Value)(t:TypeId)(ds:Array Value)(u:TypeId):∃v,(w.alloc (.cells cs t)).alloc (.cells ds u)=v/\Cls v w.heap.size cs t/\Cls v (w.heap.size+1) ds u/\Below w.heap.size w v/\v.heap.size=w.heap.size+2:=by
 refine⟨_,rfl,(Cls.new w cs t).below ((Below.refl _ _).alloc (Nat.le_refl _) _),?_,((Below.refl _ _).alloc (Nat.le_refl _) _).alloc (by simp) _,by simp⟩;have:=Cls.new (w.alloc (.cells cs t)) ds u
 rwa[World.size_alloc]at this

theorem Cls.set4 {v:World}{g:Nat}{x0 x1 x2 x3:Value}{t:TypeId}(h:Cls v g #[x0,x1,x2,x3] t)(a b c d:Value):∃Y,(((v.setCell ⟨g,0,none⟩ a).setCell ⟨g,1,none⟩ b).setCell ⟨g,2,none⟩ c).setCell ⟨g,3,none⟩ d=Y/\Cls Y g #[a,b,c,d] t/\(∀n w,Below n w v->n<=g->Below n w Y)/\v.grownBy Y (some g)/\Y.heap.size=v.heap.size:=
 ⟨_,rfl,(((h.set 0 a _ rfl).set 1 b _ rfl).set 2 c _ rfl).set 3 d _ rfl,fun n w hb hg=>(((hb.setCell (p:=⟨g,0,none⟩) hg a).setCell (p:=⟨g,1,none⟩) hg b).setCell (p:=⟨g,2,none⟩) hg c).setCell (p:=⟨g,3,none⟩) hg d,
  aA (aA (aA (aD _ _ _ _) (aD _ _ _ _)) (aD _ _ _ _)) (aD _ _ _ _),by simp⟩

theorem xM (ng:Bool)(e0 e1 e2 e3 e4:Int)(e5:Bool)(a b:Option Addr)(c m d:Nat)(w:World)(Y:Nat)(kP:∀v:World,Calls Tryz.prog 48 #[.agg #[.int .i64 e0,.int .i64 e1,.int .i64 e2,.int .i64 e3,.int .i64 e4,.bool e5],.agg #[.int .i64 1,.bool ng,.int .u64 0,.int .u64 0,.int .i64 0]] v fun e w'=>e=.returned (.agg #[.int .u64 (M.hiN Y:Int),.int .u64 (M.loN Y:Int)])/\Below v.heap.size v w'):
 Calls Tryz.prog 98 #[.agg #[.int .i64 e0,.int .i64 e1,.int .i64 e2,.int .i64 e3,.int .i64 e4,.bool e5],.bool ng,.slice a 0 c,.slice b m d] w fun e w'=>e=.returned (.agg #[.int .u64 (M.hiN Y:Int),.int .u64 (M.loN Y:Int),.int .i64 0,.bool true])/\Below w.heap.size w w':=by
 obtain⟨v0,hV,hD,hR,b0,-⟩:=new2 w #[.int .i64 e0,.int .i64 e1,.int .i64 e2,.int .i64 e3,.int .i64 e4,.bool e5] 37 #[.int .u64 0,.int .u64 0,.int .i64 0,.bool false] 62;go_enter Tryz.func98,Tryz.ntmps98;go_upto_region 1 with fail;clear hV;have d0:=hD.cell 0 rfl;have d1:=hD.cell 1 rfl;have d2:=hD.cell 2 rfl;have d3:=hD.cell 3 rfl;have d4:=hD.cell 4 rfl;have d5:=hD.cell 5 rfl;go_wp2_with fail;refine(kP _).mono ?_;rintro e v1 ⟨rfl,hb1⟩;replace b0:=b0.trans (hb1.mono b0.size);replace hR:=hR.below hb1;clear hb1 d0 d1 d2 d3 d4 d5;have r0:=hR.cell 0 rfl;have s0:=hR.frozen 0;have r1:=hR.cell 1 rfl;have s1:=hR.frozen 1;have r2:=hR.cell 2 rfl;have s2:=hR.frozen 2;have r3:=hR.cell 3 rfl;have s3:=hR.frozen 3;go_wp2_with fail;have R5:=Cls.set (Cls.set (Cls.set (Cls.set (hR) 0 (.int .u64 (M.hiN Y:Int)) _ rfl) 1 (.int .u64 (M.loN Y:Int)) _ rfl) 2 (.int .i64 0) _ rfl) 3 (.bool true) #[.int .u64 (M.hiN Y:Int),.int .u64 (M.loN Y:Int),.int .i64 0,.bool true] rfl;have B5:=((((b0).setCell (p:=⟨w.heap.size+1,0,none⟩) (by simp only;omega) (.int .u64 (M.hiN Y:Int))).setCell (p:=⟨w.heap.size+1,1,none⟩) (by simp only;omega) (.int .u64 (M.loN Y:Int))).setCell (p:=⟨w.heap.size+1,2,none⟩) (by simp only;omega) (.int .i64 0)).setCell (p:=⟨w.heap.size+1,3,none⟩) (by simp only;omega) (.bool true);generalize((((v1.setCell ⟨w.heap.size+1,0,none⟩ (.int .u64 (M.hiN Y:Int))).setCell ⟨w.heap.size+1,1,none⟩ (.int .u64 (M.loN Y:Int))).setCell ⟨w.heap.size+1,2,none⟩ (.int .i64 0)).setCell ⟨w.heap.size+1,3,none⟩ (.bool true))=Yw at R5 B5|-;have q0:=R5.cell 0 rfl;have q1:=R5.cell 1 rfl;have q2:=R5.cell 2 rfl;have q3:=R5.cell 3 rfl;exact bodyPost_ret (v:=.agg #[.int .u64 (M.hiN Y:Int),.int .u64 (M.loN Y:Int),.int .i64 0,.bool true]) (by simp[results,Tryz.results98,go_sem,q0,q1,q2,q3]) rfl ⟨rfl,B5⟩

theorem CN (ng:Bool)(e0 e1 e2 e3 e4:Int)(e5:Bool)(a b:Option Addr)(c d N De:Nat)(w:World)(hN:(((L N).length:Int)==0)=false)(ra:Rd w a (L N))(rb:Rd w b (L De))(X Y0 S1 S:Nat)(Q Xq PC PQ FL:Int)(PS Y:Nat)
 (kS:∀(v:World)(g:Nat),Rb v g e0 e1 e2 e3 e4 e5 a (L N).length c b (L De).length d 0 0->Rd v a (L N)->Rd v b (L De)->bH a (L N) g->bH b (L De) g->
   Calls Tryz.prog 127 #[.pointer (some ⟨g,0,none⟩)] v fun e w'=>(∃v,e=.returned v)/\∃(a1:Option Addr)(c1:Nat)(a2:Option Addr)(c2:Nat),Rb w' g e0 e1 e2 e3 e4 e5 a1 (L X).length c1 a2 (L Y0).length c2 0 Q/\Rd w' a1 (L X)/\Rd w' a2 (L Y0)/\bH a1 (L X) g/\bH a2 (L Y0) g/\v.grownBy w' (some g))
 (kN:∀(v:World)(g:Nat)(a1:Option Addr)(c1:Nat)(a2:Option Addr)(c2:Nat),Rb v g e0 e1 e2 e3 e4 e5 a1 (L X).length c1 a2 (L Y0).length c2 0 Q->Rd v a1 (L X)->Rd v a2 (L Y0)->bH a1 (L X) g->bH a2 (L Y0) g->
   Calls Tryz.prog 128 #[.pointer (some ⟨g,0,none⟩)] v fun e w'=>(∃v,e=.returned v)/\Rb w' g e0 e1 e2 e3 e4 e5 a1 (L X).length c1 a2 (L Y0).length c2 S1 Q/\v.grownBy w' (some g))
 (kC:∀(v:World)(g:Nat)(a1:Option Addr)(n1 c1:Nat)(a2:Option Addr)(n2 c2:Nat),Rb v g e0 e1 e2 e3 e4 e5 a1 n1 c1 a2 n2 c2 S1 Q->
   Calls Tryz.prog 129 #[.pointer (some ⟨g,0,none⟩)] v fun e w'=>(∃v,e=.returned v)/\Rb w' g e0 e1 e2 e3 e4 e5 a1 n1 c1 a2 n2 c2 S Xq/\v.grownBy w' (some g))
 (kO:∀(v:World)(g:Nat)(a1:Option Addr)(n1 c1:Nat)(a2:Option Addr)(n2 c2:Nat),Rb v g e0 e1 e2 e3 e4 e5 a1 n1 c1 a2 n2 c2 S Xq->
   Calls Tryz.prog 130 #[.pointer (some ⟨g,0,none⟩)] v fun e w'=>e=.returned (.tuple #[.agg #[.int .i64 PC,.bool false,.int .u64 (M.hiN PS:Int),.int .u64 (M.loN PS:Int),.int .i64 PQ],.int .i64 FL])/\Below v.heap.size v w')
 (kP:∀v:World,Calls Tryz.prog 48 #[.agg #[.int .i64 e0,.int .i64 e1,.int .i64 e2,.int .i64 e3,.int .i64 e4,.bool e5],.agg #[.int .i64 PC,.bool ng,.int .u64 (M.hiN PS:Int),.int .u64 (M.loN PS:Int),.int .i64 PQ]] v fun e w'=>e=.returned (.agg #[.int .u64 (M.hiN Y:Int),.int .u64 (M.loN Y:Int)])/\Below v.heap.size v w'):
 Calls Tryz.prog 98 #[.agg #[.int .i64 e0,.int .i64 e1,.int .i64 e2,.int .i64 e3,.int .i64 e4,.bool e5],.bool ng,.slice a (L N).length c,.slice b (L De).length d] w fun e w'=>e=.returned (.agg #[.int .u64 (M.hiN Y:Int),.int .u64 (M.loN Y:Int),.int .i64 FL,.bool true])/\Below w.heap.size w w':=by
 obtain⟨v0,hV,hD,hR,b0,-⟩:=new2 w #[.int .i64 e0,.int .i64 e1,.int .i64 e2,.int .i64 e3,.int .i64 e4,.bool e5] 37 #[.int .u64 0,.int .u64 0,.int .i64 0,.bool false] 62;go_enter Tryz.func98,Tryz.ntmps98;go_upto_region 1 with fail;clear hV;have d0:=hD.cell 0 rfl;have d1:=hD.cell 1 rfl;have d2:=hD.cell 2 rfl;have d3:=hD.cell 3 rfl;have d4:=hD.cell 4 rfl;have d5:=hD.cell 5 rfl;go_upto_region 4 with fail
 have hB:Rb (v0.alloc (.cells #[.int .i64 e0,.int .i64 e1,.int .i64 e2,.int .i64 e3,.int .i64 e4,.bool e5,.slice a (L N).length c,.slice b (L De).length d,.int .u64 0,.int .u64 0,.int .i64 0] 171)) v0.heap.size e0 e1 e2 e3 e4 e5 a (L N).length c b (L De).length d 0 0:=by
  unfold Rb;rw[hi0,lo0];exact Cls.new _ _ _
 have bA:Below v0.heap.size v0 (v0.alloc (.cells #[.int .i64 e0,.int .i64 e1,.int .i64 e2,.int .i64 e3,.int .i64 e4,.bool e5,.slice a (L N).length c,.slice b (L De).length d,.int .u64 0,.int .u64 0,.int .i64 0] 171)):=(Below.refl _ _).alloc (Nat.le_refl _) _;have lg:w.heap.size+1<v0.heap.size:=hR.lt;replace ra:=ra.below b0;replace rb:=rb.below b0;have sa:=nS ra (Nat.le_refl _);have sb:=nS rb (Nat.le_refl _);replace ra:=ra.below bA;replace rb:=rb.below bA;replace b0:=b0.trans (bA.mono b0.size);replace hR:=hR.below bA;clear bA hD d0 d1 d2 d3 d4 d5;generalize(v0.alloc (.cells #[.int .i64 e0,.int .i64 e1,.int .i64 e2,.int .i64 e3,.int .i64 e4,.bool e5,.slice a (L N).length c,.slice b (L De).length d,.int .u64 0,.int .u64 0,.int .i64 0] 171))=v1 at*;generalize v0.heap.size=g at*
 have BG:∀{u v:World},Below w.heap.size w u->u.grownBy v (some g)->Below w.heap.size w v:=fun hb hg=>hb.grown hg hb.size (fun k hk=>by injection hk with hk;omega)
 go_wp2_with fail;refine(kS _ _ hB ra rb sa sb).mono ?_;rintro e v2 ⟨⟨z1,rfl⟩,a1,c1,a2,c2,hB2,r1,r2,s1,s2,hg2⟩;replace b0:=BG b0 hg2;replace hR:=hR.grown hg2 (by intro e;injection e;omega);clear kS hB ra rb sa sb hg2;go_wp2_with fail;refine(kN _ _ _ _ _ _ hB2 r1 r2 s1 s2).mono ?_;rintro e v3 ⟨⟨z2,rfl⟩,hB3,hg3⟩;replace b0:=BG b0 hg3;replace hR:=hR.grown hg3 (by intro e;injection e;omega);clear kN hB2 r1 r2 s1 s2 hg3;go_wp2_with fail;refine(kC _ _ _ _ _ _ _ _ hB3).mono ?_;rintro e v4 ⟨⟨z3,rfl⟩,hB4,hg4⟩;replace b0:=BG b0 hg4;replace hR:=hR.grown hg4 (by intro e;injection e;omega);clear kC hB3 hg4;go_wp2_with fail;refine(kO _ _ _ _ _ _ _ _ hB4).mono ?_;rintro e v5 ⟨rfl,hb5⟩;replace b0:=b0.trans (hb5.mono b0.size);replace hR:=hR.below hb5;replace hB4:=hB4.below hb5;clear kO hb5 BG;have lB:g<v5.heap.size:=Cls.lt hB4;go_upto_region 8 with fail;obtain⟨v6,ev6,hP,bA,-⟩:=eE v5 #[.int .i64 PC,.bool false,.int .u64 (M.hiN PS:Int),.int .u64 (M.loN PS:Int),.int .i64 PQ] 67;replace b0:=b0.trans (bA.mono b0.size);replace hR:=hR.below bA;replace hB4:=hB4.below bA;clear bA;rw[ev6];clear ev6;generalize v5.heap.size=gp at*;have p1:=hP.cell 1 rfl;have g1:=hP.frozen 1;go_upto_region 9 with fail;clear p1 g1;replace hP:=Cls.set hP 1 (.bool ng) #[.int .i64 PC,.bool ng,.int .u64 (M.hiN PS:Int),.int .u64 (M.loN PS:Int),.int .i64 PQ] rfl;replace hR:=hR.far ⟨gp,1,none⟩ (by simp only;omega) (.bool ng);replace hB4:Rb (v6.setCell ⟨gp,1,none⟩ (.bool ng)) _ _ _ _ _ _ _ _ _ _ _ _ _ _ _:=Cls.far hB4 ⟨gp,1,none⟩ (by simp only;omega) (.bool ng);replace b0:=b0.setCell (p:=⟨gp,1,none⟩) (by simp only;omega) (.bool ng);generalize(v6.setCell ⟨gp,1,none⟩ (.bool ng))=v7 at*;have b0x:=Cls.cell hB4 0 rfl;have b1:=Cls.cell hB4 1 rfl;have b2:=Cls.cell hB4 2 rfl;have b3:=Cls.cell hB4 3 rfl;have b4:=Cls.cell hB4 4 rfl;have b5:=Cls.cell hB4 5 rfl;have p0:=hP.cell 0 rfl;have p1:=hP.cell 1 rfl;have p2:=hP.cell 2 rfl;have p3:=hP.cell 3 rfl;have p4:=hP.cell 4 rfl;go_wp2_with fail;refine(kP _).mono ?_;rintro e v8 ⟨rfl,hb8⟩;replace b0:=b0.trans (hb8.mono b0.size);replace hR:=hR.below hb8;clear hb8 b0x b1 b2 b3 b4 b5 p0 p1 p2 p3 p4 hP hB4 kP;have r0:=hR.cell 0 rfl;have s0:=hR.frozen 0;have r1:=hR.cell 1 rfl;have s1:=hR.frozen 1;have r2:=hR.cell 2 rfl;have s2:=hR.frozen 2;have r3:=hR.cell 3 rfl;have s3:=hR.frozen 3;go_wp2_with fail;have R5:=Cls.set (Cls.set (Cls.set (Cls.set (hR) 0 (.int .u64 (M.hiN Y:Int)) _ rfl) 1 (.int .u64 (M.loN Y:Int)) _ rfl) 2 (.int .i64 FL) _ rfl) 3 (.bool true) #[.int .u64 (M.hiN Y:Int),.int .u64 (M.loN Y:Int),.int .i64 FL,.bool true] rfl;have B5:=((((b0).setCell (p:=⟨w.heap.size+1,0,none⟩) (by simp only;omega) (.int .u64 (M.hiN Y:Int))).setCell (p:=⟨w.heap.size+1,1,none⟩) (by simp only;omega) (.int .u64 (M.loN Y:Int))).setCell (p:=⟨w.heap.size+1,2,none⟩) (by simp only;omega) (.int .i64 FL)).setCell (p:=⟨w.heap.size+1,3,none⟩) (by simp only;omega) (.bool true);generalize((((v8.setCell ⟨w.heap.size+1,0,none⟩ (.int .u64 (M.hiN Y:Int))).setCell ⟨w.heap.size+1,1,none⟩ (.int .u64 (M.loN Y:Int))).setCell ⟨w.heap.size+1,2,none⟩ (.int .i64 FL)).setCell ⟨w.heap.size+1,3,none⟩ (.bool true))=Yw at R5 B5|-;have q0:=R5.cell 0 rfl;have q1:=R5.cell 1 rfl;have q2:=R5.cell 2 rfl;have q3:=R5.cell 3 rfl;exact bodyPost_ret (v:=.agg #[.int .u64 (M.hiN Y:Int),.int .u64 (M.loN Y:Int),.int .i64 FL,.bool true]) (by simp[results,Tryz.results98,go_sem,q0,q1,q2,q3]) rfl ⟨rfl,B5⟩

end Go.Proofs.YtfdgkleoaehjaaaGreatDoor
