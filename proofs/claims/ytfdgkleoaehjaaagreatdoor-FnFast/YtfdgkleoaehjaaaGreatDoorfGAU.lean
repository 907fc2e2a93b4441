import Derived.Test.YtfdgkleoaehjaaaGreatDoorfGAL
set_option maxHeartbeats 8000000
set_option maxRecDepth 100000
namespace Go.Proofs.YtfdgkleoaehjaaaGreatDoor
open Go.RowKit
set_option linter.unusedVariables false
set_option maxRecDepth 100000

structure Rv (w v:World)(gd:Nat)(e0 e1 e2 e3 e4:Int)(e5:Bool):Prop where
 b:Below w.heap.size w v
 r:Cls v w.heap.size #[.int .u64 0,.int .u64 0,.int .i64 0,.bool false] 62
 d:D6 v gd e0 e1 e2 e3 e4 e5
 l:w.heap.size<gd

theorem Rv.below {w v v':World}{gd:Nat}{e0 e1 e2 e3 e4:Int}{e5:Bool}(h:Rv w v gd e0 e1 e2 e3 e4 e5)(hb:Below v.heap.size v v'):Rv w v' gd e0 e1 e2 e3 e4 e5:=
 ⟨h.b.trans (hb.mono h.b.size),h.r.below hb,h.d.below hb,h.l⟩

theorem fR (v:World)(q:Nat):Below v.heap.size v (v.drewN q):=⟨rfl,rfl,rfl,Nat.le_refl _,fun _ _=>rfl⟩

theorem BR (f:Int)(ng:Bool)(N De:Nat)(e0 e1 e2 e3 e4:Int)(e5:Bool)(w:World)(ao bo:Option Addr)(c d:Nat)(hcn:(D N).length<=c)(ra:Rd w ao (D N))(rb:Rd w bo (D De))
 (kE:∀v:World,Calls Tryz.prog 9 #[.int .i64 f] v fun e w'=>e=.returned (.agg #[.int .i64 e0,.int .i64 e1,.int .i64 e2,.int .i64 e3,.int .i64 e4,.bool e5])/\Below v.heap.size v w')
 (bN bD:Nat)(kN:∀(v:World)(ao:Option Addr)(cc:Nat),Rd v ao (D N)->Calls Tryz.prog 56 #[.slice ao (D N).length cc] v fun e w'=>e=.returned (.int .i64 ((bN:Nat):Int))/\w'=v)
 (kD:∀(v:World)(ao:Option Addr)(cc:Nat),Rd v ao (D De)->Calls Tryz.prog 56 #[.slice ao (D De).length cc] v fun e w'=>e=.returned (.int .i64 ((bD:Nat):Int))/\w'=v)
 (lt:Bool)(kB:∀(v:World)(ao bo:Option Addr)(c d:Nat),Rd v ao (D N)->Rd v bo (D De)->Calls Tryz.prog 57 #[.slice ao (D N).length c,.slice bo (D De).length d,.int .i64 ((bN:Int)-(bD:Int))] v fun x w'=>x=.returned (.bool lt)/\Below v.heap.size v w')
 (E Q qm:Int)(hE:E=if lt then(bN:Int)-bD-1 else(bN:Int)-bD)(hqm:e1-e0+1=qm)(hQ:Q=if E-e0+1<qm then qm else E-e0+1)
 (hb1:bN<=90000)(hb2:bD<=90000)(he0:0<=e0)(he0':e0<=200)(hqm1:-20000<=qm)(hqm2:qm<=0)(he1:-20000<=e1)(he1':e1<=20000)
 (nn mm:Nat)(kM:0<=Q->nn=N/\∀(v:World)(ao:Option Addr)(cc:Nat),Rd v ao (D De)->Calls Tryz.prog 42 #[.slice ao (D De).length cc,.int .i64 Q] v fun e w'=>Ret v w' e (D (mm)))(kM':¬0<=Q->mm=De/\∀(v:World)(ao:Option Addr)(cc:Nat),Rd v ao (D N)->Calls Tryz.prog 42 #[.slice ao (D N).length cc,.int .i64 (-Q)] v fun e w'=>Ret v w' e (D (nn)))
 (S0 R0:Nat)(kV:∀(v:World)(ao bo:Option Addr)(c d:Nat),(D nn).length<=c->Rd v ao (D nn)->Rd v bo (D mm)->Calls Tryz.prog 58 #[.slice ao (D nn).length c,.slice bo (D mm).length d] v fun e w'=>P8 v w' e (D S0) (D R0))
 (kR:∀(v:World)(ao:Option Addr)(cc:Nat),Rd v ao (D R0)->Calls Tryz.prog 42 #[.slice ao (D R0).length cc,.int .i64 1] v fun e w'=>Ret v w' e (D (R0*2)))
 (cz:Int)(kC:∀(v:World)(ao bo:Option Addr)(c d:Nat),Rd v ao (D (R0*2))->Rd v bo (D mm)->Calls Tryz.prog 59 #[.slice ao (D (R0*2)).length c,.slice bo (D mm).length d] v fun e w'=>e=.returned (.int .i64 cz)/\w'=v)
 (kA:∀(v:World)(ao:Option Addr)(cc:Nat),Rd v ao (D S0)->Calls Tryz.prog 60 #[.slice ao (D S0).length cc,.int .i64 0] v fun e w'=>e=.returned (.int .u64 ((S0%4294967296:Nat):Int))/\w'=v)
 (k1:∀v:World,Calls Tryz.prog 21 #[.int .u64 1] v fun e w'=>Ret v w' e (D 1))
 (kP:∀(v:World)(ao bo:Option Addr)(c d:Nat),Rd v ao (D S0)->Rd v bo (D 1)->Calls Tryz.prog 53 #[.slice ao (D S0).length c,.slice bo (D 1).length d] v fun e w'=>Ret v w' e (D (S0+1)))
 (S1:Nat)(hS1:S1=if 0<cz\/(cz=0/\S0%2=1)then S0+1 else S0)
 (b1:Nat)(kB1:∀(v:World)(ao:Option Addr)(cc:Nat),Rd v ao (D S1)->Calls Tryz.prog 56 #[.slice ao (D S1).length cc] v fun e w'=>e=.returned (.int .i64 ((b1:Nat):Int))/\w'=v)
 (kH:∀(v:World)(ao:Option Addr)(cc:Nat),Rd v ao (D S1)->Calls Tryz.prog 61 #[.slice ao (D S1).length cc,.int .i64 1] v fun e w'=>Ret v w' e (D (S1/2)))
 (S:Nat)(X:Int)(hS:S=if e0<(b1:Int)then S1/2 else S1)(hX:X=if e0<(b1:Int)then Q+1 else Q)(hQ1:-100000<=Q)(hQ2:Q<=100000)(he2:0<=e2)(he2':e2<=20000)
 (b2:Nat)(kB2:∀(v:World)(ao:Option Addr)(cc:Nat),Rd v ao (D S)->Calls Tryz.prog 56 #[.slice ao (D S).length cc] v fun e w'=>e=.returned (.int .i64 ((b2:Nat):Int))/\w'=v)
 (kW:∀(v:World)(ao:Option Addr)(cc:Nat),Rd v ao (D S)->Calls Tryz.prog 62 #[.slice ao (D S).length cc] v fun e w'=>e=.returned (.agg #[.int .u64 (M.hiN S:Int),.int .u64 (M.loN S:Int)])/\Below v.heap.size v w')
 (PC:Int)(PS:Nat)(PQ FL:Int)(hcls:(S=0/\PC=1/\PS=0/\PQ=0/\FL=2)\/(S≠0/\(b2:Int)<e0/\PC=2/\PS=S/\PQ=qm/\FL=2)\/(S≠0/\¬(b2:Int)<e0/\e2<X+e0-1/\PC=4/\PS=0/\PQ=0/\FL=1)\/(S≠0/\¬(b2:Int)<e0/\¬e2<X+e0-1/\PC=3/\PS=S/\PQ=X/\FL=0))
 (Y:Nat)(ok:Bool)(kK:∀v:World,Calls Tryz.prog 25 #[.int .i64 f,.agg #[.int .i64 PC,.bool ng,.int .u64 (M.hiN PS:Int),.int .u64 (M.loN PS:Int),.int .i64 PQ]] v fun e w'=>e=.returned (.tuple #[.agg #[.int .u64 (M.hiN Y:Int),.int .u64 (M.loN Y:Int)],.bool ok])/\Below v.heap.size v w'):
 Calls Tryz.prog 24 #[.int .i64 f,.bool ng,.slice ao (D N).length c,.slice bo (D De).length d] w fun e w'=>e=.returned (.agg #[.int .u64 (M.hiN Y:Int),.int .u64 (M.loN Y:Int),.int .i64 FL,.bool true])/\Below w.heap.size w w':=by
 have b0:Below w.heap.size w (w.alloc (.cells #[.int .u64 0,.int .u64 0,.int .i64 0,.bool false] 62)):=(Below.refl _ _).alloc (Nat.le_refl _) _;have R0':Cls (w.alloc (.cells #[.int .u64 0,.int .u64 0,.int .i64 0,.bool false] 62)) w.heap.size #[.int .u64 0,.int .u64 0,.int .i64 0,.bool false] 62:=Cls.new _ _ _;generalize hV:(w.alloc (.cells #[.int .u64 0,.int .u64 0,.int .i64 0,.bool false] 62))=v0 at*;have KM:=hid kM;have KM':=hid kM';have HS1:=hid hS1;have HE:=hid hE;have HQ:=hid hQ;have HS:=hid hS;have HX:=hid hX;have HC:=hid hcls;have HM:=hid hqm;clear kM kM' hS1 hE hQ hS hX hcls hqm;have w1:IntKind.i64.wrap (e1-e0)=e1-e0:=by rw[IntKind.wrap_i64];omega
 have w2:IntKind.i64.wrap (e1-e0+1)=qm:=by have:=HM.out;rw[IntKind.wrap_i64];omega
 have w3:IntKind.i64.wrap ((bN:Int)-(bD:Int))=(bN:Int)-(bD:Int):=by rw[IntKind.wrap_i64];omega
 go_enter Tryz.func24,Tryz.ntmps24;go_upto_region 1 with fail;clear hV;go_wp2_with fail;refine(kE _).mono ?_;rintro e v1 ⟨rfl,hb1'⟩;replace b0:=b0.trans (hb1'.mono b0.size);replace R0':=R0'.below hb1';have l0:=R0'.lt;clear hb1' kE;go_upto_region 2 with fail;have bA:Below v1.heap.size v1 (v1.alloc (.cells #[.int .i64 e0,.int .i64 e1,.int .i64 e2,.int .i64 e3,.int .i64 e4,.bool e5] 37)):=(Below.refl _ _).alloc (Nat.le_refl _) _;have J0:Rv w (v1.alloc (.cells #[.int .i64 e0,.int .i64 e1,.int .i64 e2,.int .i64 e3,.int .i64 e4,.bool e5] 37)) v1.heap.size e0 e1 e2 e3 e4 e5:=⟨b0.trans (bA.mono b0.size),R0'.below bA,OI v1 _ _ _ _ _ _ _,l0⟩;clear bA b0 R0' l0;generalize(v1.alloc (.cells #[.int .i64 e0,.int .i64 e1,.int .i64 e2,.int .i64 e3,.int .i64 e4,.bool e5] 37))=v2 at*;generalize v1.heap.size=gd at*;replace ra:=ra.below J0.b;replace rb:=rb.below J0.b;obtain⟨d0,d1,d2,d3,d4,d5,-⟩:=id J0.d;go_wp2_with fail;refine(kN _ _ _ ra).mono ?_;rintro e v3 ⟨rfl,rfl⟩;go_wp2_with fail;refine(kD _ _ _ rb).mono ?_;rintro e v4 ⟨rfl,rfl⟩;clear d0 d1 d2 d3 d4 d5;go_wp2_with fail;refine(kB _ _ _ _ _ ra rb).mono ?_;rintro e v5 ⟨rfl,hb5⟩;replace J0:=J0.below hb5;replace ra:=ra.below hb5;replace rb:=rb.below hb5;clear hb5 kB kN kD;go_upto_if 36 with fail
 go_cut[11] (fun x wx=>x=.int .i64 E/\wx=v5)
 case first=>
  have w4:IntKind.i64.wrap ((bN:Int)-(bD:Int)-1)=(bN:Int)-(bD:Int)-1:=by rw[IntKind.wrap_i64];omega
  have h:=HE.out;cases lt
  . go_wp2_with fail;go_meet
    case rel=>exact⟨by rw[h];rfl,rfl⟩
  . go_wp2_with fail;go_meet
    case rel=>exact⟨by rw[h];rfl,rfl⟩
 case rest=>
 obtain⟨rfl,rfl⟩:=hcut
 have hEb:-90001<=E/\E<=90000:=by
  have h:=HE.out;cases lt
  . simp only[Bool.false_eq_true,if_false]at h;omega
  . simp only[if_true]at h;omega
 have w5:IntKind.i64.wrap (E-e0)=E-e0:=by rw[IntKind.wrap_i64];omega
 have w6:IntKind.i64.wrap (E-e0+1)=E-e0+1:=by rw[IntKind.wrap_i64];omega
 obtain⟨d0,d1,d2,d3,d4,d5,-⟩:=id J0.d;go_upto_if 46 with fail
 go_cut[12] (fun x wx=>x=.int .i64 Q/\wx=wc)
 case first=>
  have h:=HQ.out
  by_cases hlt:E-e0+1<qm
  . rw[if_pos hlt]at h;go_wp2_with fail;go_meet
    case rel=>exact⟨by rw[h],rfl⟩
  . rw[if_neg hlt]at h;go_wp2_with fail;go_meet
    case rel=>exact⟨by rw[h],rfl⟩
 case rest=>
 obtain⟨rfl,rfl⟩:=hcut;clear d0 d1 d2 d3 d4 d5;have w7:IntKind.i64.wrap (-Q)= -Q:=by rw[IntKind.wrap_i64];omega
 go_upto_if 51 with fail
 go_cut[13,14] (fun x y wx=>∃(a1:Option Addr)(c1:Nat)(a2:Option Addr)(c2:Nat),x=.slice a1 (D nn).length c1/\y=.slice a2 (D mm).length c2/\(D nn).length<=c1/\Rd wx a1 (D nn)/\Rd wx a2 (D mm)/\Below wc.heap.size wc wx)
 case first=>
  by_cases hq0:0<=Q
  . obtain⟨hnn,kL⟩:=KM.out hq0;go_wp2_with fail;refine(kL _ _ _ rb).mono ?_;rintro e v6 ⟨a2,c2,rfl,o2,hb6⟩;go_wp2_with fail;go_meet
    case rel=>
     subst hnn;exact⟨ao,c,a2,c2,rfl,rfl,hcn,ra.below hb6,Rd.own o2,hb6⟩
  . obtain⟨hmm,kL⟩:=KM'.out (by omega);go_wp2_with fail;refine(kL _ _ _ ra).mono ?_;rintro e v6 ⟨a1,c1,rfl,o1,hb6⟩;go_wp2_with fail;go_meet
    case rel=>
     subst hmm;exact⟨a1,c1,bo,d,rfl,rfl,bF o1,Rd.own o1,rb.below hb6,hb6⟩
 case rest=>
 rename_i wc1
 obtain⟨a1,c1,a2,c2,rfl,rfl,hc1,rn,rm,hbx⟩:=hcut;replace J0:=J0.below hbx;clear hbx ra rb;go_wp2_with fail;refine(kV _ _ _ _ _ hc1 rn rm).mono ?_;rintro e v6 ⟨q1,cq,r1,cr,rfl,rq,rr,hb6⟩;replace J0:=J0.below hb6;replace rm:=rm.below hb6;clear hb6 rn kV hc1;go_wp2_with fail;refine(kR _ _ _ rr).mono ?_;rintro e v7 ⟨r2,cr2,rfl,o2,hb7⟩;have r2':=Rd.own o2;replace J0:=J0.below hb7;replace rm:=rm.below hb7;replace rq:=rq.below hb7;clear hb7 rr kR o2;go_wp2_with fail;refine(kC _ _ _ _ _ r2' rm).mono ?_;rintro e v8 ⟨rfl,rfl⟩;clear kC r2' rm;go_upto_region 16 with fail
 go_cut[80] (fun x wx=>x=.bool (decide (0<cz\/(cz=0/\S0%2=1)))/\wx=v8)
 case first=>
  by_cases hp:0<cz
  . have e1:decide (0<cz\/(cz=0/\S0%2=1))=true:=decide_eq_true (.inl hp);have E1:=hid e1;clear e1;go_wp2_with fail;go_meet
    case rel=>exact⟨by rw[E1.out],rfl⟩
  . by_cases hz:cz=0
    . have hzb:(cz==0)=true:=by simp[hz]
      have e1:decide (0<cz\/(cz=0/\S0%2=1))=(((S0%4294967296:Nat):Int)%2==1):=by
       rw[Bool.eq_iff_iff];simp only[decide_eq_true_eq,beq_iff_eq];omega
      have HZ:=hid hz;clear hz;have E1:=hid e1;clear e1
      go_wp2_with (go_at_call 60;refine(kA _ _ _ rq).mono ?_;rintro e v9 ⟨rfl,rfl⟩)
      go_meet
      case rel=>exact⟨by rw[E1.out];first|rfl|simp,rfl⟩
    . have hzb:(cz==0)=false:=by simp[hz]
      have e1:decide (0<cz\/(cz=0/\S0%2=1))=false:=decide_eq_false (by omega);have E1:=hid e1;clear e1;go_wp2_with fail;go_meet
      case rel=>exact⟨by rw[E1.out],rfl⟩
 case rest=>
 obtain⟨rfl,rfl⟩:=hcut;go_upto_if 80 with fail
 go_cut[15] (fun x wx=>∃(a1:Option Addr)(c1:Nat),x=.slice a1 (D S1).length c1/\Rd wx a1 (D S1)/\Below wc.heap.size wc wx)
 case first=>
  have h:=HS1.out
  by_cases hp:0<cz\/(cz=0/\S0%2=1)
  . rw[if_pos hp]at h;have e1:decide (0<cz\/(cz=0/\S0%2=1))=true:=decide_eq_true hp;rw[e1];have HP:=hid hp;clear hp;go_wp2_with fail;refine(k1 _).mono ?_;rintro e v9 ⟨o1,c1',rfl,oo,hb9⟩;go_wp2_with fail;refine(kP _ _ _ _ _ (rq.below hb9) (Rd.own oo)).mono ?_;rintro e v10 ⟨o2,c2',rfl,oo2,hb10⟩;go_wp2_with fail;go_meet
    case rel=>
     subst h;exact⟨o2,c2',rfl,Rd.own oo2,hb9.trans (hb10.mono hb9.size)⟩
  . rw[if_neg hp]at h;have e1:decide (0<cz\/(cz=0/\S0%2=1))=false:=decide_eq_false hp;rw[e1];have HP:=hid hp;clear hp;go_wp2_with fail;go_meet
    case rel=>
     subst h;exact⟨q1,cq,rfl,rq,Below.refl _ _⟩
 case rest=>
 obtain⟨sa,sc,rfl,rs,hbx⟩:=hcut;replace J0:=J0.below hbx;clear hbx rq kA k1 kP;obtain⟨d0,d1,d2,d3,d4,d5,-⟩:=id J0.d;go_upto_region 18 with fail
 go_quiet((go_at_call 56;exact Calls.quiet_of_same (kB1 _ sa sc (Rd.drewN rs _))))
 replace J0:=J0.below (fR _ nq);replace rs:=rs.below (fR _ nq);generalize hvz:wc.drewN nq=vz at*;clear hvz d0 d1 d2 d3 d4 d5 kB1;go_upto_if 88 with fail
 go_cut[15,12] (fun x y wx=>∃(a1:Option Addr)(c1:Nat),x=.slice a1 (D S).length c1/\y=.int .i64 X/\Rd wx a1 (D S)/\Below vz.heap.size vz wx)
 case first=>
  have h1:=HS.out;have h2:=HX.out;have w8:IntKind.i64.wrap (Q+1)=Q+1:=by rw[IntKind.wrap_i64];omega
  by_cases hp:e0<(b1:Int)
  . rw[if_pos hp]at h1 h2;go_wp2_with fail;refine(kH _ _ _ rs).mono ?_;rintro e v9 ⟨o1,c1',rfl,oo,hb9⟩;go_wp2_with fail;go_meet
    case rel=>
     subst h1;exact⟨o1,c1',rfl,by rw[h2],Rd.own oo,hb9⟩
  . rw[if_neg hp]at h1 h2;go_wp2_with fail;go_meet
    case rel=>
     subst h1;exact⟨sa,sc,rfl,by rw[h2],rs,Below.refl _ _⟩
 case rest=>
 obtain⟨ta,tc,rfl,rfl,rt,hbx⟩:=hcut;replace J0:=J0.below hbx;clear hbx rs kH;go_upto_block 0 with fail;have bA:Below wc.heap.size wc ((wc.alloc (.cells #[.int .i64 0,.bool ng,.int .u64 0,.int .u64 0,.int .i64 0] 67)).alloc (.cells #[.int .u64 0,.int .u64 0,.int .i64 0,.bool true] 62)):=((Below.refl _ _).alloc (Nat.le_refl _) _).alloc (by simp) _;have P0:Cls ((wc.alloc (.cells #[.int .i64 0,.bool ng,.int .u64 0,.int .u64 0,.int .i64 0] 67)).alloc (.cells #[.int .u64 0,.int .u64 0,.int .i64 0,.bool true] 62)) wc.heap.size #[.int .i64 0,.bool ng,.int .u64 0,.int .u64 0,.int .i64 0] 67:=(Cls.new wc _ _).below ((Below.refl _ _).alloc (Nat.le_refl _) _)
 have O0:Cls ((wc.alloc (.cells #[.int .i64 0,.bool ng,.int .u64 0,.int .u64 0,.int .i64 0] 67)).alloc (.cells #[.int .u64 0,.int .u64 0,.int .i64 0,.bool true] 62)) (wc.heap.size+1) #[.int .u64 0,.int .u64 0,.int .i64 0,.bool true] 62:=by
  have:=Cls.new (wc.alloc (.cells #[.int .i64 0,.bool ng,.int .u64 0,.int .u64 0,.int .i64 0] 67)) #[.int .u64 0,.int .u64 0,.int .i64 0,.bool true] 62
  rwa[World.size_alloc]at this
 have lg:gd<wc.heap.size:=J0.d.2.2.2.2.2.2;have ap:=nS rt (Nat.le_refl _);replace J0:=J0.below bA;replace rt:=rt.below bA;clear bA;generalize((wc.alloc (.cells #[.int .i64 0,.bool ng,.int .u64 0,.int .u64 0,.int .i64 0] 67)).alloc (.cells #[.int .u64 0,.int .u64 0,.int .i64 0,.bool true] 62))=vA at*;generalize wc.heap.size=gp at*;have lw:=J0.l
 go_cut[12] (fun x wx=>x=.int .i64 X/\Cls wx gp #[.int .i64 PC,.bool ng,.int .u64 (M.hiN PS:Int),.int .u64 (M.loN PS:Int),.int .i64 PQ] 67/\Cls wx (gp+1) #[.int .u64 0,.int .u64 0,.int .i64 FL,.bool true] 62/\Cls wx w.heap.size #[.int .u64 0,.int .u64 0,.int .i64 0,.bool false] 62/\Below w.heap.size w wx)
 case first=>
  have hz:=uX S
  have w9:IntKind.i64.wrap (X+e0)=X+e0:=by have:=HX.out;rw[IntKind.wrap_i64];split at this<;>omega
  have w10:IntKind.i64.wrap (X+e0-1)=X+e0-1:=by have:=HX.out;rw[IntKind.wrap_i64];split at this<;>omega
  rcases HC.out with⟨hS0,rfl,rfl,rfl,rfl⟩|⟨hS0,hlt,rfl,rfl,rfl,rfl⟩|⟨hS0,hlt,hov,rfl,rfl,rfl,rfl⟩|⟨hS0,hlt,hov,rfl,rfl,rfl,rfl⟩
  . rw[decide_eq_true hS0]at hz;have HS0:=hid hS0;clear hS0;have P0c0:=P0.cell 0 rfl;have P0f0:=P0.frozen 0;have O0c2:=O0.cell 2 rfl;have O0f2:=O0.frozen 2;go_wp2_with fail;go_meet
    case rel=>
     have jr:=J0.r;have jb:=J0.b;exact⟨rfl,(P0.set 0 _ _ rfl).far _ (by simp) _,(O0.far _ (by simp) _).set 2 _ _ rfl,(jr.far _ (by simp only;omega) _).far _ (by simp only;omega) _,(jb.setCell (by simp only;omega) _).setCell (by simp only;omega) _⟩
  . rw[decide_eq_false hS0]at hz;have HS0:=hid hS0;clear hS0;obtain⟨d0,d1,d2,d3,d4,d5,-⟩:=id J0.d;go_upto_region 29 with fail
    go_quiet((go_at_call 56;exact Calls.quiet_of_same (kB2 _ ta tc (Rd.drewN rt _))))
    replace J0:=J0.below (fR _ nq);replace P0:=P0.below (fR _ nq);replace O0:=O0.below (fR _ nq);replace rt:=rt.below (fR _ nq);generalize hvz:vA.drewN nq=vB at*;clear hvz d0 d1 d2 d3 d4 d5;have P0c0:=P0.cell 0 rfl;have P0f0:=P0.frozen 0;go_upto_region 31 with fail;have P1:Cls (vB.setCell ⟨gp,0,none⟩ (.int .i64 2)) gp #[.int .i64 2,.bool ng,.int .u64 0,.int .u64 0,.int .i64 0] 67:=P0.set 0 _ _ rfl;have O1:=O0.far ⟨gp,0,none⟩ (by simp) (.int .i64 2);have jr:=J0.r.far ⟨gp,0,none⟩ (by simp only;omega) (.int .i64 2);have jb:=J0.b.setCell (p:=⟨gp,0,none⟩) (by simp only;omega) (.int .i64 2);have rt1:=rt.apart (aD vB gp 0 (.int .i64 2)) ap;generalize vB.setCell ⟨gp,0,none⟩ (.int .i64 2)=vC at*;clear P0 O0 J0 rt P0c0 P0f0;go_wp2_with fail;refine(kW _ _ _ rt1).mono ?_;rintro e vD ⟨rfl,hbD⟩;replace P1:=P1.below hbD;replace O1:=O1.below hbD;replace jr:=jr.below hbD;replace jb:=jb.trans (hbD.mono jb.size);clear hbD rt1;have P1c2:=P1.cell 2 rfl;have P1f2:=P1.frozen 2;have P1c3:=P1.cell 3 rfl;have P1f3:=P1.frozen 3;have P1c4:=P1.cell 4 rfl;have P1f4:=P1.frozen 4;have O1c2:=O1.cell 2 rfl;have O1f2:=O1.frozen 2;go_wp2_with fail;go_meet
    case rel=>
     exact⟨rfl,(((P1.set 2 _ _ rfl).set 3 _ _ rfl).set 4 _ _ rfl).far _ (by simp) _,(((O1.far _ (by simp) _).far _ (by simp) _).far _ (by simp) _).set 2 _ _ rfl,(((jr.far _ (by simp only;omega) _).far _ (by simp only;omega) _).far _ (by simp only;omega) _).far _ (by simp only;omega) _,(((jb.setCell (by simp only;omega) _).setCell (by simp only;omega) _).setCell (by simp only;omega) _).setCell (by simp only;omega) _⟩
  . rw[decide_eq_false hS0]at hz;have HS0:=hid hS0;clear hS0;obtain⟨d0,d1,d2,d3,d4,d5,-⟩:=id J0.d;go_upto_region 29 with fail
    go_quiet((go_at_call 56;exact Calls.quiet_of_same (kB2 _ ta tc (Rd.drewN rt _))))
    replace J0:=J0.below (fR _ nq);replace P0:=P0.below (fR _ nq);replace O0:=O0.below (fR _ nq);replace rt:=rt.below (fR _ nq);generalize hvz:vA.drewN nq=vB at*;clear hvz d0 d1 d2 d3 d4 d5;obtain⟨d0,d1,d2,d3,d4,d5,-⟩:=id J0.d;have P0c0:=P0.cell 0 rfl;have P0f0:=P0.frozen 0;have O0c2:=O0.cell 2 rfl;have O0f2:=O0.frozen 2;have jr:=J0.r;have jb:=J0.b;go_wp2_with fail;go_meet
    case rel=>
     exact⟨rfl,(P0.set 0 _ _ rfl).far _ (by simp) _,(O0.far _ (by simp) _).set 2 _ _ rfl,(jr.far _ (by simp only;omega) _).far _ (by simp only;omega) _,(jb.setCell (by simp only;omega) _).setCell (by simp only;omega) _⟩
  . rw[decide_eq_false hS0]at hz;have HS0:=hid hS0;clear hS0;obtain⟨d0,d1,d2,d3,d4,d5,-⟩:=id J0.d;go_upto_region 29 with fail
    go_quiet((go_at_call 56;exact Calls.quiet_of_same (kB2 _ ta tc (Rd.drewN rt _))))
    replace J0:=J0.below (fR _ nq);replace P0:=P0.below (fR _ nq);replace O0:=O0.below (fR _ nq);replace rt:=rt.below (fR _ nq);generalize hvz:vA.drewN nq=vB at*;clear hvz d0 d1 d2 d3 d4 d5;obtain⟨d0,d1,d2,d3,d4,d5,-⟩:=id J0.d;have P0c0:=P0.cell 0 rfl;have P0f0:=P0.frozen 0;go_upto_region 24 with fail;have P1:Cls (vB.setCell ⟨gp,0,none⟩ (.int .i64 3)) gp #[.int .i64 3,.bool ng,.int .u64 0,.int .u64 0,.int .i64 0] 67:=P0.set 0 _ _ rfl;have O1:=O0.far ⟨gp,0,none⟩ (by simp) (.int .i64 3);have jr:=J0.r.far ⟨gp,0,none⟩ (by simp only;omega) (.int .i64 3);have jb:=J0.b.setCell (p:=⟨gp,0,none⟩) (by simp only;omega) (.int .i64 3);have rt1:=rt.apart (aD vB gp 0 (.int .i64 3)) ap;generalize vB.setCell ⟨gp,0,none⟩ (.int .i64 3)=vC at*;clear P0 O0 J0 rt P0c0 P0f0;go_wp2_with fail;refine(kW _ _ _ rt1).mono ?_;rintro e vD ⟨rfl,hbD⟩;replace P1:=P1.below hbD;replace O1:=O1.below hbD;replace jr:=jr.below hbD;replace jb:=jb.trans (hbD.mono jb.size);clear hbD rt1;have P1c2:=P1.cell 2 rfl;have P1f2:=P1.frozen 2;have P1c3:=P1.cell 3 rfl;have P1f3:=P1.frozen 3;have P1c4:=P1.cell 4 rfl;have P1f4:=P1.frozen 4;go_wp2_with fail;go_meet
    case rel=>
     exact⟨rfl,((P1.set 2 _ _ rfl).set 3 _ _ rfl).set 4 _ _ rfl,((O1.far _ (by simp) _).far _ (by simp) _).far _ (by simp) _,((jr.far _ (by simp only;omega) _).far _ (by simp only;omega) _).far _ (by simp only;omega) _,((jb.setCell (by simp only;omega) _).setCell (by simp only;omega) _).setCell (by simp only;omega) _⟩
 case rest=>
 obtain⟨rfl,P2,O2,jr,jb⟩:=hcut;clear P0 O0 J0 rt ap kW kB2 HC HS HX HS1 HE HQ KM KM' HM;have P2c0:=P2.cell 0 rfl;have P2c1:=P2.cell 1 rfl;have P2c2:=P2.cell 2 rfl;have P2c3:=P2.cell 3 rfl;have P2c4:=P2.cell 4 rfl;go_wp2_with fail;refine(kK _).mono ?_;rintro e vK ⟨rfl,hbK⟩;replace O2:=O2.below hbK;replace jr:=jr.below hbK;replace jb:=jb.trans (hbK.mono jb.size);clear hbK P2 P2c0 P2c1 P2c2 P2c3 P2c4 kK;have O2c0:=O2.cell 0 rfl;have O2f0:=O2.frozen 0;have O2c1:=O2.cell 1 rfl;have O2f1:=O2.frozen 1;go_upto_region 38 with fail;have O3:Cls ((vK.setCell ⟨gp+1,0,none⟩ (.int .u64 (M.hiN Y:Int))).setCell ⟨gp+1,1,none⟩ (.int .u64 (M.loN Y:Int))) (gp+1) #[.int .u64 (M.hiN Y:Int),.int .u64 (M.loN Y:Int),.int .i64 FL,.bool true] 62:=(O2.set 0 _ _ rfl).set 1 _ _ rfl;have jr3:=(jr.far ⟨gp+1,0,none⟩ (by simp only;omega) (.int .u64 (M.hiN Y:Int))).far ⟨gp+1,1,none⟩ (by simp only;omega) (.int .u64 (M.loN Y:Int));have jb3:=(jb.setCell (p:=⟨gp+1,0,none⟩) (by simp only;omega) (.int .u64 (M.hiN Y:Int))).setCell (p:=⟨gp+1,1,none⟩) (by simp only;omega) (.int .u64 (M.loN Y:Int));clear O2 jr jb O2c0 O2c1 O2f0 O2f1;generalize((vK.setCell ⟨gp+1,0,none⟩ (.int .u64 (M.hiN Y:Int))).setCell ⟨gp+1,1,none⟩ (.int .u64 (M.loN Y:Int)))=vL at*;have O3c0:=O3.cell 0 rfl;have O3c1:=O3.cell 1 rfl;have O3c2:=O3.cell 2 rfl;have O3c3:=O3.cell 3 rfl;have jr3c0:=jr3.cell 0 rfl;have jr3f0:=jr3.frozen 0;have jr3c1:=jr3.cell 1 rfl;have jr3f1:=jr3.frozen 1;have jr3c2:=jr3.cell 2 rfl;have jr3f2:=jr3.frozen 2;have jr3c3:=jr3.cell 3 rfl;have jr3f3:=jr3.frozen 3;go_wp2_with fail;have R4:=(((jr3.set 0 (.int .u64 (M.hiN Y:Int)) _ rfl).set 1 (.int .u64 (M.loN Y:Int)) _ rfl).set 2 (.int .i64 FL) _ rfl).set 3 (.bool true) #[.int .u64 (M.hiN Y:Int),.int .u64 (M.loN Y:Int),.int .i64 FL,.bool true] rfl;have B4:=(((jb3.setCell (p:=⟨w.heap.size,0,none⟩) (Nat.le_refl _) (.int .u64 (M.hiN Y:Int))).setCell (p:=⟨w.heap.size,1,none⟩) (Nat.le_refl _) (.int .u64 (M.loN Y:Int))).setCell (p:=⟨w.heap.size,2,none⟩) (Nat.le_refl _) (.int .i64 FL)).setCell (p:=⟨w.heap.size,3,none⟩) (Nat.le_refl _) (.bool true);have q0:=R4.cell 0 rfl;have q1:=R4.cell 1 rfl;have q2:=R4.cell 2 rfl;have q3:=R4.cell 3 rfl;exact bodyPost_ret (v:=.agg #[.int .u64 (M.hiN Y:Int),.int .u64 (M.loN Y:Int),.int .i64 FL,.bool true]) (by simp[results,Tryz.results24,go_sem,q0,q1,q2,q3]) rfl ⟨rfl,B4⟩

theorem jV {a:Nat}(h:a<2^128):(D a).length<=6:=dG a (by omega)

theorem OV (p W ex R V:Nat)(e1 e2 e4:Int)(x n ld:Bool)(ao:Option Addr)(c:Nat)(w:World)(hp1:2<=p)(hp2:p<=113)(hW1:1<=W)(hW2:W<=128)(hex:ex<40000)(hr:Rd w ao (D R))(fb A1 S1 A2:Nat)(hfb:fb=if x then p else p-1)(hA1:A1=R+if x=true/\ld=true then 2^(p-1)else 0)(hA2:A2=A1+ex*2^fb)(hV:V=A2+if n then 2^(W-1)else 0)(hVl:V<2^128):
 Calls Tryz.prog 64 #[.agg #[.int .i64 (p:Int),.int .i64 e1,.int .i64 e2,.int .i64 (W:Int),.int .i64 e4,.bool x],.bool n,.int .i64 (ex:Int),.bool ld,.slice ao (D R).length c] w fun e w'=>e=.returned (.agg #[.int .u64 (M.hiN V:Int),.int .u64 (M.loN V:Int)])/\Below w.heap.size w w':=by
 have k2:∀(v:World)(z:Int)(k:Nat),z=(k:Int)->k<=128->Calls Tryz.prog 43 #[.int .i64 z] v fun e w'=>Ret v w' e (D (2^k)):=fun v z k hz hk=>by
  rw[hz];exact jG k v hk
 have lA2:A2<2^128:=by omega
 have lA1:A1<2^128:=by omega
 have lE:ex*2^fb<2^128:=by omega
 have lR:R<2^128:=by omega
 have dR:=jV lR;have dA1:=jV lA1;have dA2:=jV lA2;have dE:=jV lE;have dX:=jV (a:=ex) (by omega);have hcv:IntKind.u64.wrap (ex:Int)=(ex:Int):=by rw[IntKind.wrap_u64];omega
 have w1:IntKind.i64.wrap ((p:Int)-1)=(p:Int)-1:=by rw[IntKind.wrap_i64];omega
 have w2:IntKind.i64.wrap ((W:Int)-1)=(W:Int)-1:=by rw[IntKind.wrap_i64];omega
 obtain⟨cD,cR,b0⟩:=Cls.new2 w #[.int .i64 (p:Int),.int .i64 e1,.int .i64 e2,.int .i64 (W:Int),.int .i64 e4,.bool x] #[.int .u64 0,.int .u64 0] 37 27;replace hr:=hr.below b0;have HFB:=hid hfb;have HA1:=hid hA1;have HA2:=hid hA2;have HV:=hid hV;clear hfb hA1 hA2 hV;go_enter Tryz.func64,Tryz.ntmps64;go_upto_region 1 with fail;generalize(w.alloc (.cells #[.int .i64 (p:Int),.int .i64 e1,.int .i64 e2,.int .i64 (W:Int),.int .i64 e4,.bool x] 37)).alloc (.cells #[.int .u64 0,.int .u64 0] 27)=v0 at*;have d0:=cD.cell 0 rfl;have d5:=cD.cell 5 rfl;go_upto_if 18 with fail
 go_cut[11,12] (fun a b wx=>∃a1 c1,a=.slice a1 (D A1).length c1/\b=.int .i64 (fb:Int)/\Rd wx a1 (D A1)/\Below v0.heap.size v0 wx)
 case first=>
  cases x
  . have e1:A1=R:=by rw[HA1.out];simp
    have e2:((fb:Nat):Int)=(p:Int)-1:=by rw[HFB.out];simp;omega
    have HE1:=hid e1;have HE2:=hid e2;clear e1 e2;go_wp2_with fail;go_meet
    case rel=>exact⟨ao,c,by rw[HE1.out],by rw[HE2.out],by rw[HE1.out];exact hr,Below.refl _ _⟩
  . have e2:fb=p:=by rw[HFB.out];simp
    have HE2:=hid e2;clear e2;cases ld
    . have e1:A1=R:=by rw[HA1.out];simp
      have HE1:=hid e1;clear e1;go_wp2_with fail;go_meet
      case rel=>exact⟨ao,c,by rw[HE1.out],by rw[HE2.out],by rw[HE1.out];exact hr,Below.refl _ _⟩
    . have e1:R+2^(p-1)=A1:=by rw[HA1.out];simp
      have HE1:=hid e1;clear e1;go_wp2_with fail;refine(k2 _ _ (p-1) (by omega) (by omega)).mono ?_;rintro e t1 ⟨a1,c1,rfl,ho1,hb1⟩;have kk:=cJ ao a1 _ _ c c1 R (2^(p-1)) t1 rfl rfl (by omega) (Nat.le_trans (jV (Nat.pow_lt_pow_right (by omega) (by omega))) (by omega)) (hr.below hb1) (Rd.own ho1);rw[HE1.out]at kk;go_wp2_with fail;refine kk.mono ?_;rintro e t2 ⟨a2,c2,rfl,ho2,hb2⟩;have HB:=hid (hb1.trans (hb2.mono hb1.size));have HR2:=hid (Rd.own ho2);clear hb1 hb2 ho1 ho2 kk;go_wp2_with fail;go_meet
      case rel=>exact⟨a2,c2,rfl,by rw[HE2.out],HR2.out,HB.out⟩
 case rest=>
 rename World=>v1
 obtain⟨a1,c1,rfl,rfl,r1,hb⟩:=hcut;replace cD:=cD.below hb;replace cR:=cR.below hb;replace b0:=b0.trans (hb.mono b0.size);clear hb d0 d5 hr;go_wp2_with fail;refine(aU ex _ (by omega)).mono ?_;rintro e v2 ⟨a2,c2,rfl,ho,hb⟩;replace cD:=cD.below hb;replace cR:=cR.below hb;replace r1:=r1.below hb;replace b0:=b0.trans (hb.mono b0.size)
 have kl:=aN a2 _ c2 fb ex v2 rfl (by omega) (by have:=HFB.out;split at this<;>omega) (Rd.own ho)
 clear hb ho;go_wp2_with fail;refine kl.mono ?_;rintro e v3 ⟨a3,c3,rfl,ho,hb⟩;replace cD:=cD.below hb;replace cR:=cR.below hb;replace r1:=r1.below hb;replace b0:=b0.trans (hb.mono b0.size);have ka:=cJ a1 a3 _ _ c1 c3 A1 (ex*2^fb) v3 rfl rfl (by omega) (by omega) r1 (Rd.own ho);rw[<-HA2.out]at ka;clear hb ho kl;go_wp2_with fail;refine ka.mono ?_;rintro e v4 ⟨a4,c4,rfl,ho,hb⟩;replace cD:=cD.below hb;replace cR:=cR.below hb;replace b0:=b0.trans (hb.mono b0.size);have r4:=Rd.own ho;clear hb ho ka r1;have d3:=cD.cell 3 rfl;go_upto_if 35 with fail
 go_cut[11] (fun a wx=>∃a1 c1,a=.slice a1 (D V).length c1/\Rd wx a1 (D V)/\Below v4.heap.size v4 wx)
 case first=>
  cases n
  . have e1:V=A2:=by rw[HV.out];simp
    have HE1:=hid e1;clear e1;go_wp2_with fail;go_meet
    case rel=>exact⟨a4,c4,by rw[HE1.out],by rw[HE1.out];exact r4,Below.refl _ _⟩
  . have e1:A2+2^(W-1)=V:=by rw[HV.out];simp
    have HE1:=hid e1;clear e1;go_wp2_with fail;refine(k2 _ _ (W-1) (by omega) (by omega)).mono ?_;rintro e t1 ⟨a5,c5,rfl,ho1,hb1⟩;have kk:=cJ a4 a5 _ _ c4 c5 A2 (2^(W-1)) t1 rfl rfl (by omega) (Nat.le_trans (jV (Nat.pow_lt_pow_right (by omega) (by omega))) (by omega)) (r4.below hb1) (Rd.own ho1);rw[HE1.out]at kk;go_wp2_with fail;refine kk.mono ?_;rintro e t2 ⟨a6,c6,rfl,ho2,hb2⟩;have HB:=hid (hb1.trans (hb2.mono hb1.size));have HR2:=hid (Rd.own ho2);clear hb1 hb2 ho1 ho2 kk;go_wp2_with fail;go_meet
    case rel=>exact⟨a6,c6,rfl,HR2.out,HB.out⟩
 case rest=>
 rename World=>v5
 obtain⟨a5,c5,rfl,r5,hb⟩:=hcut;replace cR:=cR.below hb;replace b0:=b0.trans (hb.mono b0.size);clear hb cD r4 d3;go_wp2_with fail;refine(fC a5 _ c5 V _ rfl hVl r5).mono ?_;rintro e v6 ⟨rfl,hb⟩;replace cR:=cR.below hb;replace b0:=b0.trans (hb.mono b0.size);clear hb;have q0:=cR.cell 0 rfl;have q1:=cR.cell 1 rfl;have z0:=cR.frozen 0;have z1:=cR.frozen 1;go_wp2_with fail;exact bodyPost_ret (v:=.agg #[.int .u64 (M.hiN V:Int),.int .u64 (M.loN V:Int)]) (by simp[results,Tryz.results64,go_sem,q0,q1]) rfl ⟨rfl,(b0.setCell (p:=⟨w.heap.size+1,0,none⟩) (Nat.le_succ _) _).setCell (p:=⟨w.heap.size+1,1,none⟩) (Nat.le_succ _) _⟩

theorem IL (F:M.Fm)(h:F.Ok)(n ld:Bool)(ex R V:Nat)(hex:ex<40000)
 (hV:V=ex*2^F.fb+(if F.x=true/\ld=true then F.lead else 0)+R+(if n then 2^(F.wd-1)else 0))(hVl:V<2^128)(ao:Option Addr)(c:Nat)(w:World)(hr:Rd w ao (D R)):
 Calls Tryz.prog 64 #[.agg #[.int .i64 (F.p:Int),.int .i64 (1-(F.emax:Int)),.int .i64 (F.emax:Int),.int .i64 (F.wd:Int),.int .i64 (F.e:Int),.bool F.x],.bool n,.int .i64 (ex:Int),.bool ld,.slice ao (D R).length c] w fun e w'=>e=.returned (.agg #[.int .u64 (M.hiN V:Int),.int .u64 (M.loN V:Int)])/\Below w.heap.size w w':=by
 have p1:=h.p1;have p2:=h.p2;have w1:=vR h;have w2:=h.w;have hf:F.fb=if F.x then F.p else F.p-1:=rfl;have hle:F.lead=2^(F.p-1):=rfl;rw[hle]at hV;refine OV F.p F.wd ex R V _ _ _ F.x n ld ao c w (by omega) p2 w1 w2 hex hr F.fb _ 0 _ hf rfl rfl ?_ hVl;rw[hV];omega

theorem GJ (F:M.Fm)(h:F.Ok)(n ld:Bool)(ex sg R:Nat)(h2:ex<=F.top)(h3:sg<2*F.lead)(h4:F.lead<=sg↔0<ex)(hld:ld=decide (0<ex))(hR:R=if 0<ex then sg-F.lead else sg)(ao:Option Addr)(c:Nat)(w:World)(hr:Rd w ao (D R)):
 Calls Tryz.prog 64 #[.agg #[.int .i64 (F.p:Int),.int .i64 (1-(F.emax:Int)),.int .i64 (F.emax:Int),.int .i64 (F.wd:Int),.int .i64 (F.e:Int),.bool F.x],.bool n,.int .i64 (ex:Int),.bool ld,.slice ao (D R).length c] w fun e w'=>e=.returned (.agg #[.int .u64 (M.hiN (F.word n ex sg):Int),.int .u64 (M.loN (F.word n ex sg):Int)])/\Below w.heap.size w w':=by
 have ht:=h.top2;have hl:=(h.fields n ex sg h2 h3 h4).2.2.2;have hw:=h.width.2.2;refine IL F h n ld ex R _ (by omega) ?_ (Nat.lt_of_lt_of_le hl hw) ao c w hr;subst hld;subst hR;unfold M.Fm.word
 by_cases hx:0<ex
 . have:=h4.2 hx
   cases F.x<;>simp[hx]<;>omega
 . cases F.x<;>simp[hx]

theorem JN (F:M.Fm)(h:F.Ok)(w:World):
 Calls Tryz.prog 65 #[.agg #[.int .i64 (F.p:Int),.int .i64 (1-(F.emax:Int)),.int .i64 (F.emax:Int),.int .i64 (F.wd:Int),.int .i64 (F.e:Int),.bool F.x]] w fun e w'=>e=.returned (.int .i64 (F.top:Int))/\Below w.heap.size w w':=by
 have ht:=h.top2;have e1:(F.top:Int)=2*(F.emax:Int)+1:=by omega
 have f1:wrap64 (2*(F.emax:Int))=2*(F.emax:Int):=by simp only[wrap64];omega
 have f2:wrap64 (2*(F.emax:Int)+1)=2*(F.emax:Int)+1:=by simp only[wrap64];omega
 rw[e1];clear ht e1;generalize(F.emax:Int)=E at*;go_enter Tryz.func65,Tryz.ntmps65;go_wp2_with fail;go_ret
 exact⟨congrArg (fun x=>Ending.returned (Value.int .i64 x)) f2,(Below.refl _ _).alloc (Nat.le_refl _) _⟩

end Go.Proofs.YtfdgkleoaehjaaaGreatDoor
namespace Go.Proofs.YtfdgkleoaehjaaaGreatDoor.M
set_option linter.unusedVariables false
set_option maxRecDepth 100000

def Fm.rst (F:Fm)(X:Nat):Nat:=if F.x then X%2^F.fb%F.lead else X%2^F.fb

theorem Fm.Ok.fracLt {F:Fm}(h:F.Ok)(X:Nat):X%2^F.fb<if F.x then 2*F.lead else F.lead:=by
 rw[<-h.ad];exact Nat.mod_lt _ (Nat.pow_pos (by omega))

theorem Fm.Ok.rstLt {F:Fm}(h:F.Ok)(X:Nat):F.rst X<F.lead:=by
 have:=h.fracLt X;have hl:=h.leadPos;unfold Fm.rst;cases hx:F.x
 . simpa[hx]using this
 . simp only[if_true];exact Nat.mod_lt _ hl

theorem Fm.Ok.sgnW {F:Fm}(h:F.Ok)(X:Nat):(1<F.sgn X↔2^F.wd<=X)/\(X<2^F.wd->F.sgn X=X/2^(F.wd-1)%2):=by
 have e:F.sgn X=X/2^(F.wd-1):=by unfold Fm.sgn;rw[Nat.div_div_eq_div_mul,h.width.2.1]
 have e2:2^F.wd=2*2^(F.wd-1):=by rw[h.width.1,h.width.2.1,Nat.mul_comm]
 have hp:0<2^(F.wd-1):=Nat.pow_pos (by omega);rw[e,e2];refine⟨?_,?_⟩
 . rw[show(1<X/2^(F.wd-1))=(2<=X/2^(F.wd-1))from rfl,Nat.le_div_iff_mul_le hp]
 . intro hx;have:X/2^(F.wd-1)<2:=Nat.div_lt_of_lt_mul (by rw[Nat.mul_comm];exact hx);omega

theorem Fm.Ok.upk_rst {F:Fm}(h:F.Ok)(X:Nat)(hw:X<2^F.wd)(hx:F.x=true->(F.lead<=X%2^F.fb↔0<F.fld X)):
 F.upk X=if F.fld X=F.top then(if F.rst X=0 then⟨4,decide (X/2^(F.wd-1)%2=1),0,0⟩else⟨5,false,0,0⟩)
  else if F.fld X=0 then(if F.rst X=0 then⟨1,decide (X/2^(F.wd-1)%2=1),0,0⟩else⟨2,decide (X/2^(F.wd-1)%2=1),F.rst X,F.qmin⟩)
  else⟨3,decide (X/2^(F.wd-1)%2=1),F.rst X+F.lead,(F.fld X:Int)-F.emax-F.p+1⟩:=by
 have hl:=h.leadPos;have ht:=h.top2;obtain⟨s1,s2⟩:=h.sgnW X;have s3:=s2 hw;have hfr:=h.fracLt X
 have hsig:F.sig X=F.rst X+(if 0<F.fld X then F.lead else 0)/\(F.lead<=F.sig X↔0<F.fld X):=by
  unfold Fm.sig Fm.rst;clear s1 s2 s3 hw ht;generalize X%2^F.fb=G at*;generalize F.fld X=f at*;generalize F.lead=L at*;cases hxx:F.x
  . simp only[hxx,Bool.false_eq_true,if_false,true_and]at hfr|-
    by_cases h0:0<f
    . simp only[h0,if_true];exact⟨trivial,by simp⟩
    . simp only[h0,if_false];exact⟨rfl,by simpa using hfr⟩
  . have hx':=hx hxx;simp only[hxx,if_true,Bool.true_eq_false,false_and,if_false]at hfr|-;refine⟨?_,hx'⟩
    by_cases h0:0<f
    . have:=hx'.2 h0;simp only[h0,if_true];rw[Nat.mod_eq_sub_mod this,Nat.mod_eq_of_lt (by omega)];omega
    . have:=mt hx'.1 h0;simp only[h0,if_false];rw[Nat.mod_eq_of_lt (by omega),Nat.add_zero]
 have hb:¬F.bad X:=by
  unfold Fm.bad;rintro(hh|hh)
  . have:=s1.1 hh;omega
  . exact hh hsig.2
 rw[<-s3];unfold Fm.upk;simp only[hb,if_false]
 by_cases h1:F.fld X=F.top
 . simp only[h1,if_true];have e:F.sig X=F.rst X+F.lead:=by rw[hsig.1,if_pos (by omega)]
   have e2:(F.sig X=F.lead)=(F.rst X=0):=by rw[e];apply propext;omega
   simp only[e2]
 . simp only[h1,if_false]
   by_cases h2:F.fld X=0
   . have h3:¬0<F.fld X:=by omega
     have e:F.sig X=F.rst X:=by rw[hsig.1,if_neg h3,Nat.add_zero]
     simp only[h2,if_true,e,Nat.lt_irrefl,if_false]
   . have h3:0<F.fld X:=by omega
     have e:F.sig X=F.rst X+F.lead:=by rw[hsig.1,if_pos h3]
     simp only[h3,if_true,h2,if_false,e]

theorem Fm.Ok.upk_lead {F:Fm}(h:F.Ok)(X:Nat)(hx:F.x=true)(hb:¬(F.lead<=X%2^F.fb↔0<F.fld X)):F.upk X=⟨0,false,0,0⟩:=by
 have:F.bad X:=by
  unfold Fm.bad Fm.sig
  right
  simpa[hx]using hb
 unfold Fm.upk;simp only[this,if_true]

theorem Fm.Ok.upk_wide {F:Fm}(h:F.Ok)(X:Nat)(hb:2^F.wd<=X):F.upk X=⟨0,false,0,0⟩:=by
 have:F.bad X:=.inl ((h.sgnW X).1.2 hb);unfold Fm.upk;simp only[this,if_true]

theorem KP (X fb k e:Nat)(hk:k+1<=e):(X/2^(fb+(k+1))%2^(e-(k+1)))*2+X/2^(fb+k)%2=X/2^(fb+k)%2^(e-k):=by
 have e1:X/2^(fb+(k+1))=X/2^(fb+k)/2:=by rw[<-Nat.add_assoc,Nat.pow_succ,Nat.div_div_eq_div_mul]
 have e2:2^(e-k)=2*2^(e-(k+1)):=by rw[<-Nat.pow_succ'];congr 1;omega
 rw[e1,e2];generalize X/2^(fb+k)=Y;rw[Nat.mod_mul];omega

end Go.Proofs.YtfdgkleoaehjaaaGreatDoor.M
