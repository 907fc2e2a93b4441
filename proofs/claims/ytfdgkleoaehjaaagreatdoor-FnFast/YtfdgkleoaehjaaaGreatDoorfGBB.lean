import Derived.Test.YtfdgkleoaehjaaaGreatDoorfGBA
set_option maxHeartbeats 8000000
set_option maxRecDepth 100000
namespace Go.Proofs.YtfdgkleoaehjaaaGreatDoor
open Go.RowKit
set_option linter.unusedVariables false
set_option maxRecDepth 100000

theorem pV {w v:World}(h:Below w.heap.size w v)(g:Nat)(hg:w.heap.size<=g)(a b c d e f:Value):Below w.heap.size w ((((((v.setCell ⟨g,0,none⟩ a).setCell ⟨g,1,none⟩ b).setCell ⟨g,2,none⟩ c).setCell ⟨g,3,none⟩ d).setCell ⟨g,4,none⟩ e).setCell ⟨g,5,none⟩ f):=
 (((((h.setCell (p:=⟨g,0,none⟩) hg a).setCell (p:=⟨g,1,none⟩) hg b).setCell (p:=⟨g,2,none⟩) hg c).setCell (p:=⟨g,3,none⟩) hg d).setCell (p:=⟨g,4,none⟩) hg e).setCell (p:=⟨g,5,none⟩) hg f

theorem PO (a b:Option Addr)(n c m d:Nat)(e:Int)(x:Bool)(v:World):Sem.run Tryz.prog (Instr.field 84 (.agg #[.slice a n c,.slice b m d,.int .i64 e,.bool x]) 0) v=.ok (.slice a n c) v:=by kernel_rfl

theorem IT (a b:Option Addr)(n c m d:Nat)(e:Int)(x:Bool)(v:World):Sem.run Tryz.prog (Instr.field 84 (.agg #[.slice a n c,.slice b m d,.int .i64 e,.bool x]) 1) v=.ok (.slice b m d) v:=by kernel_rfl

theorem uZ (f:Int)(ao:Option Addr)(n c:Nat)(W:Int)(w:World)(h l cd off fl:Int)
 (kL:∀v:World,Below w.heap.size w v->Calls Tryz.prog 37 #[.int .i64 f,.slice ao n c] v fun e w'=>e=.returned (.tuple #[.agg #[.int .i64 0,.bool false,.slice none 0 0,.int .i64 0],.int .i64 0,.int .i64 0,.bool false])/\Below v.heap.size v w')
 (kX:∀v:World,Below w.heap.size w v->Calls Tryz.prog 7 #[.int .i64 f,.slice ao n c] v fun e w'=>e=.returned (.agg #[.int .u64 h,.int .u64 l,.int .i64 cd,.int .i64 off,.int .i64 fl])/\Below v.heap.size v w'):
 Calls Tryz.prog 14 #[.int .i64 f,.slice ao n c,.int .i64 W] w fun e w'=>e=.returned (.agg #[.int .u64 h,.int .u64 l,.int .i64 cd,.int .i64 off,.int .i64 fl,.bool true])/\Below w.heap.size w w':=by
 have b0:Below w.heap.size w (w.alloc (.cells #[.int .u64 0,.int .u64 0,.int .i64 0,.int .i64 0,.int .i64 0,.bool false] 45)):=(Below.refl _ _).alloc (Nat.le_refl _) _;have cr:Cls (w.alloc (.cells #[.int .u64 0,.int .u64 0,.int .i64 0,.int .i64 0,.int .i64 0,.bool false] 45)) w.heap.size #[.int .u64 0,.int .u64 0,.int .i64 0,.int .i64 0,.int .i64 0,.bool false] 45:=Cls.new _ _ _;go_enter Tryz.func14,Tryz.ntmps14;go_wp2_with fail;refine(kL _ b0).mono ?_;rintro e v1 ⟨rfl,hb⟩;replace b0:=b0.trans (hb.mono b0.size);replace cr:=cr.below hb;clear hb;go_upto_region 3 with fail;obtain⟨v2,ev2,cdd,hb,-⟩:=eE v1 #[.int .i64 0,.bool false,.slice none 0 0,.int .i64 0] 32;replace ev2:=hid ev2;replace b0:=b0.trans (hb.mono b0.size);replace cr:=cr.below hb;rw[ev2.out];clear ev2;generalize v1.heap.size=gd at*;clear hb;go_wp2_with fail;refine(kX _ b0).mono ?_;rintro e v3 ⟨rfl,hb⟩;replace b0:=b0.trans (hb.mono b0.size);replace cr:=cr.below hb;have x0:=cr.cell 0 rfl;have z0:=cr.frozen 0;have x1:=cr.cell 1 rfl;have z1:=cr.frozen 1;have x2:=cr.cell 2 rfl;have z2:=cr.frozen 2;have x3:=cr.cell 3 rfl;have z3:=cr.frozen 3;have x4:=cr.cell 4 rfl;have z4:=cr.frozen 4;have x5:=cr.cell 5 rfl;have z5:=cr.frozen 5;have HB:=hid b0;clear hb b0 cr;go_wp2_with fail;exact bodyPost_ret (v:=.agg #[.int .u64 h,.int .u64 l,.int .i64 cd,.int .i64 off,.int .i64 fl,.bool true]) (by simp[results,Tryz.results14,go_sem,x0,x1,x2,x3,x4,x5]) rfl ⟨rfl,pV HB.out _ (Nat.le_refl _) _ _ _ _ _ _⟩

theorem DU (f:Int)(ao:Option Addr)(n c:Nat)(W:Int)(w:World)(kd:Int)(ng:Bool)(dl m:Nat)(ex k:Int)
 (kL:∀v:World,Below w.heap.size w v->Calls Tryz.prog 37 #[.int .i64 f,.slice ao n c] v fun e w'=>∃a cc,e=.returned (.tuple #[.agg #[.int .i64 kd,.bool ng,.slice a dl cc,.int .i64 ex],.int .i64 (m:Int),.int .i64 k,.bool true])/\Below v.heap.size v w')
 (kT:∀v:World,Calls Tryz.prog 38 #[.int .i64 k,.int .i64 W] v fun e w'=>e=.returned (.agg #[.int .i64 0,.int .i64 0,.int .u64 0,.int .u64 0,.int .i64 0,.bool false,.bool false])/\Below v.heap.size v w'):
 Calls Tryz.prog 14 #[.int .i64 f,.slice ao n c,.int .i64 W] w fun e w'=>e=.returned (.agg #[.int .u64 0,.int .u64 0,.int .i64 0,.int .i64 0,.int .i64 0,.bool false])/\Below w.heap.size w w':=by
 have b0:Below w.heap.size w (w.alloc (.cells #[.int .u64 0,.int .u64 0,.int .i64 0,.int .i64 0,.int .i64 0,.bool false] 45)):=(Below.refl _ _).alloc (Nat.le_refl _) _;have cr:Cls (w.alloc (.cells #[.int .u64 0,.int .u64 0,.int .i64 0,.int .i64 0,.int .i64 0,.bool false] 45)) w.heap.size #[.int .u64 0,.int .u64 0,.int .i64 0,.int .i64 0,.int .i64 0,.bool false] 45:=Cls.new _ _ _;go_enter Tryz.func14,Tryz.ntmps14;go_wp2_with fail;refine(kL _ b0).mono ?_;rintro e v1 ⟨a,cc,rfl,hb⟩;replace b0:=b0.trans (hb.mono b0.size);replace cr:=cr.below hb;clear hb;go_upto_region 4 with fail;obtain⟨v2,ev2,cd,hb,-⟩:=eE v1 #[.int .i64 kd,.bool ng,.slice a dl cc,.int .i64 ex] 32;replace ev2:=hid ev2;replace b0:=b0.trans (hb.mono b0.size);replace cr:=cr.below hb;rw[ev2.out];clear ev2;generalize v1.heap.size=gd at*;clear hb;go_wp2_with fail;refine(kT _).mono ?_;rintro e v3 ⟨rfl,hb⟩;replace b0:=b0.trans (hb.mono b0.size);replace cr:=cr.below hb;clear hb;go_upto_region 6 with fail;obtain⟨v4,ev4,cp,hb,-⟩:=eE v3 #[.int .i64 0,.int .i64 0,.int .u64 0,.int .u64 0,.int .i64 0,.bool false,.bool false] 80;replace ev4:=hid ev4;replace b0:=b0.trans (hb.mono b0.size);replace cr:=cr.below hb;rw[ev4.out];clear ev4;generalize v3.heap.size=gp at*;clear hb;have x0:=cr.cell 0 rfl;have z0:=cr.frozen 0;have x1:=cr.cell 1 rfl;have z1:=cr.frozen 1;have x2:=cr.cell 2 rfl;have z2:=cr.frozen 2;have x3:=cr.cell 3 rfl;have z3:=cr.frozen 3;have x4:=cr.cell 4 rfl;have z4:=cr.frozen 4;have x5:=cr.cell 5 rfl;have z5:=cr.frozen 5;have HB:=hid b0;clear b0 cr;go_wp2_with fail;exact bodyPost_ret (v:=.agg #[.int .u64 0,.int .u64 0,.int .i64 0,.int .i64 0,.int .i64 0,.bool false]) (by simp[results,Tryz.results14,go_sem,x0,x1,x2,x3,x4,x5]) rfl ⟨rfl,pV HB.out _ (Nat.le_refl _) _ _ _ _ _ _⟩

theorem FQ (f:Int)(ao:Option Addr)(n c:Nat)(W:Int)(w:World)(kd:Int)(ng:Bool)(dl m t:Nat)(ex k E:Int)(T:Nat)(x:Bool)(hd h2d A Bo A2 B2 B NA NB Q:Nat)(h1 l1 f1 h2 l2 f2:Int)(R:Value)(OK:World->Option Addr->Nat->Prop)(okB:∀v v' a k,OK v a k->Below v.heap.size v v'->OK v' a k)(okC:∀v a k,OK v a k->dl<=k/\k<=9223372036854775807/\∃b off,a=some ⟨b,off,none⟩)
 (ht:IntKind.i64.wrap ((dl:Int)-(m:Int))=(t:Int))(htd:t<=dl)(hL:L hd=[hd])(hw:IntKind.u64.wrap ((hd:Int)+1)=(h2d:Int))(hB:B=if 0<m then B2 else Bo)(hE1:-100000<=E)(hE2:E<=100000)
 (hy:h1=h2/\l1=l2/\f1=f2->R=.agg #[.int .u64 h1,.int .u64 l1,.int .i64 0,.int .i64 0,.int .i64 f1,.bool true])(hn:¬(h1=h2/\l1=l2/\f1=f2)->R=.agg #[.int .u64 0,.int .u64 0,.int .i64 0,.int .i64 0,.int .i64 0,.bool false])
 (kL:∀v:World,Below w.heap.size w v->Calls Tryz.prog 37 #[.int .i64 f,.slice ao n c] v fun e w'=>∃a cc,e=.returned (.tuple #[.agg #[.int .i64 kd,.bool ng,.slice a dl cc,.int .i64 ex],.int .i64 (m:Int),.int .i64 k,.bool true])/\OK w' a cc/\Below v.heap.size v w')
 (kT:∀v:World,Calls Tryz.prog 38 #[.int .i64 k,.int .i64 W] v fun e w'=>e=.returned (.agg #[.int .i64 k,.int .i64 W,.int .u64 (M.hiN T:Int),.int .u64 (M.loN T:Int),.int .i64 E,.bool x,.bool true])/\Below v.heap.size v w')
 (kD:∀(v:World)(a:Option Addr)(cc:Nat),OK v a cc->Calls Tryz.prog 20 #[.slice a t cc] v fun e w'=>Ret v w' e (D hd))
 (kO:∀(v:World)(a:Option Addr)(cc:Nat),Rd v a (D hd)->Calls Tryz.prog 39 #[.slice a (D hd).length cc] v fun e w'=>∃a' c',e=.returned (.slice a' (L hd).length c')/\w'.ownsRow v.heap.size 25 1 (.slice a' (L hd).length c') (L hd).length (U (L hd))/\Below v.heap.size v w')
 (kS1:∀v:World,Calls Tryz.prog 41 #[.int .u64 (hd:Int),.agg #[.int .i64 k,.int .i64 W,.int .u64 (M.hiN T:Int),.int .u64 (M.loN T:Int),.int .i64 E,.bool x,.bool true]] v fun e w'=>Sw v w' e (L A) (L Bo) E true)
 (kS2:∀v:World,Calls Tryz.prog 41 #[.int .u64 (h2d:Int),.agg #[.int .i64 k,.int .i64 W,.int .u64 (M.hiN T:Int),.int .u64 (M.loN T:Int),.int .i64 E,.bool x,.bool true]] v fun e w'=>Sw v w' e (L A2) (L B2) E true)
 (kI:∀(N:Nat)(v:World)(a:Option Addr)(cc:Nat),N=A\/N=Bo\/N=B2->Rd v a (L N)->Calls Tryz.prog 40 #[.slice a (L N).length cc] v fun e w'=>Ret v w' e (D N))
 (k1:∀v:World,Calls Tryz.prog 21 #[.int .u64 1] v fun e w'=>Ret v w' e (D 1))
 (kU:0<=E->Q=1/\(∀(v:World)(a:Option Addr)(cc:Nat),Rd v a (D A)->Calls Tryz.prog 42 #[.slice a (D A).length cc,.int .i64 E] v fun e w'=>Ret v w' e (D NA))/\(∀(v:World)(a:Option Addr)(cc:Nat),Rd v a (D B)->Calls Tryz.prog 42 #[.slice a (D B).length cc,.int .i64 E] v fun e w'=>Ret v w' e (D NB)))
 (kV:E<0->NA=A/\NB=B/\∀v:World,Calls Tryz.prog 43 #[.int .i64 (-E)] v fun e w'=>Ret v w' e (D Q))
 (kR1:∀(v:World)(a b:Option Addr)(c d:Nat),(D NA).length<=c->Rd v a (D NA)->Rd v b (D Q)->Calls Tryz.prog 24 #[.int .i64 f,.bool ng,.slice a (D NA).length c,.slice b (D Q).length d] v fun e w'=>e=.returned (.agg #[.int .u64 h1,.int .u64 l1,.int .i64 f1,.bool true])/\Below v.heap.size v w')
 (kR2:∀(v:World)(a b:Option Addr)(c d:Nat),(D NB).length<=c->Rd v a (D NB)->Rd v b (D Q)->Calls Tryz.prog 24 #[.int .i64 f,.bool ng,.slice a (D NB).length c,.slice b (D Q).length d] v fun e w'=>e=.returned (.agg #[.int .u64 h2,.int .u64 l2,.int .i64 f2,.bool true])/\Below v.heap.size v w'):
 Calls Tryz.prog 14 #[.int .i64 f,.slice ao n c,.int .i64 W] w fun e w'=>e=.returned R/\Below w.heap.size w w':=by
 have HBB:=hid hB;have HY:=hid hy;have HN:=hid hn;have HL:=hid hL;have HW:=hid hw;clear hB hy hn hL hw;have b0:Below w.heap.size w (w.alloc (.cells #[.int .u64 0,.int .u64 0,.int .i64 0,.int .i64 0,.int .i64 0,.bool false] 45)):=(Below.refl _ _).alloc (Nat.le_refl _) _;have cr:Cls (w.alloc (.cells #[.int .u64 0,.int .u64 0,.int .i64 0,.int .i64 0,.int .i64 0,.bool false] 45)) w.heap.size #[.int .u64 0,.int .u64 0,.int .i64 0,.int .i64 0,.int .i64 0,.bool false] 45:=Cls.new _ _ _;go_enter Tryz.func14,Tryz.ntmps14;go_wp2_with fail;refine(kL _ b0).mono ?_;rintro e v1 ⟨a,cc,rfl,ho,hb⟩;replace b0:=b0.trans (hb.mono b0.size);replace cr:=cr.below hb;clear hb kL;go_upto_region 4 with fail;obtain⟨v2,ev2,cd,hb,-⟩:=eE v1 #[.int .i64 kd,.bool ng,.slice a dl cc,.int .i64 ex] 32;replace ev2:=hid ev2;replace b0:=b0.trans (hb.mono b0.size);replace cr:=cr.below hb;replace ho:=okB _ _ _ _ ho hb;rw[ev2.out];clear ev2;generalize v1.heap.size=gd at*;clear hb;go_wp2_with fail;refine(kT _).mono ?_;rintro e v3 ⟨rfl,hb⟩;replace b0:=b0.trans (hb.mono b0.size);replace cr:=cr.below hb;replace cd:=cd.below hb;replace ho:=okB _ _ _ _ ho hb;clear hb kT;go_upto_region 7 with fail;obtain⟨v4,ev4,cp,hb,-⟩:=eE v3 #[.int .i64 k,.int .i64 W,.int .u64 (M.hiN T:Int),.int .u64 (M.loN T:Int),.int .i64 E,.bool x,.bool true] 80;replace ev4:=hid ev4;replace b0:=b0.trans (hb.mono b0.size);replace cr:=cr.below hb;replace cd:=cd.below hb;replace ho:=okB _ _ _ _ ho hb;rw[ev4.out];clear ev4;generalize v3.heap.size=gp at*;clear hb;have d2:=cd.cell 2 rfl;obtain⟨ca,cb,bb,oo,ha⟩:=okC _ _ _ ho;subst ha;have t0:(0:Int)<=(t:Int):=by omega
 have t1:(t:Int)<=(cc:Int):=by omega
 have t4:t<=cc:=by omega
 go_wp2_with fail;clear d2;refine(kD _ _ _ ho).mono ?_;rintro e v5 ⟨da,dc,rfl,oD,hb⟩;replace b0:=b0.trans (hb.mono b0.size);replace cr:=cr.below hb;replace cd:=cd.below hb;replace cp:=cp.below hb;clear hb kD ho;go_wp2_with fail;refine(kO _ _ _ (Rd.own oD)).mono ?_;rintro e v6 ⟨la,lc,rfl,oL,hb⟩;replace b0:=b0.trans (hb.mono b0.size);replace cr:=cr.below hb;replace cd:=cd.below hb;replace cp:=cp.below hb;clear hb kO oD;have rL:=Rd.own oL;rw[HL.out]at rL|-;obtain⟨lb,lo,hla,hlc⟩:=rL (by simp);subst hla;have i0:=hlc 0 (by simp);simp only[List.getD_cons_zero,Nat.add_zero]at i0;clear oL hlc;go_upto_region 8 with fail;clear i0;have p0:=cp.cell 0 rfl;have p1:=cp.cell 1 rfl;have p2:=cp.cell 2 rfl;have p3:=cp.cell 3 rfl;have p4:=cp.cell 4 rfl;have p5:=cp.cell 5 rfl;have p6:=cp.cell 6 rfl;have fs:=PO;go_wp2_with fail;clear p0 p1 p2 p3 p4 p5 p6;refine(kS1 _).mono ?_;rintro e v7 ⟨sa,sc,sb,sd,m1,rfl,-,-,oA,oB,hb⟩;replace b0:=b0.trans (hb.mono b0.size);replace cr:=cr.below hb;replace cd:=cd.below hb;replace cp:=cp.below hb;clear hb;go_wp2_with fail;clear fs;refine(kI A _ _ _ (.inl rfl) oA.rd).mono ?_;rintro e v8 ⟨aa,ac,rfl,oX,hb⟩;replace b0:=b0.trans (hb.mono b0.size);replace cr:=cr.below hb;replace cd:=cd.below hb;replace cp:=cp.below hb;have rA:=Rd.own oX;have cA:=bF oX;clear hb oX oA oB;go_upto_region 9 with fail;have p0:=cp.cell 0 rfl;have p1:=cp.cell 1 rfl;have p2:=cp.cell 2 rfl;have p3:=cp.cell 3 rfl;have p4:=cp.cell 4 rfl;have p5:=cp.cell 5 rfl;have p6:=cp.cell 6 rfl;have fs:=IT;go_wp2_with fail;clear p0 p1 p2 p3 p4 p5 p6;refine(kS1 _).mono ?_;rintro e v9 ⟨sa,sc,sb,sd,m1,rfl,-,-,oA,oB,hb⟩;replace b0:=b0.trans (hb.mono b0.size);replace cr:=cr.below hb;replace cd:=cd.below hb;replace cp:=cp.below hb;replace rA:=rA.below hb;clear hb;go_wp2_with fail;clear fs;refine(kI Bo _ _ _ (.inr (.inl rfl)) oB.rd).mono ?_;rintro e va ⟨ba,bc,rfl,oX,hb⟩;replace b0:=b0.trans (hb.mono b0.size);replace cr:=cr.below hb;replace cd:=cd.below hb;replace cp:=cp.below hb;replace rA:=rA.below hb;have rB:=Rd.own oX;have cB:=bF oX;clear hb oX oA oB kS1;go_upto_if 62 with fail
 go_cut[14] (fun z wx=>∃(a:Option Addr)(c:Nat),z=.slice a (D B).length c/\(D B).length<=c/\Rd wx a (D B)/\Below va.heap.size va wx)
 case first=>
  by_cases hm:0<m
  . have hm':(0:Int)<(m:Int):=by omega
    have eB:B=B2:=by rw[HBB.out,if_pos hm]
    have EB:=hid eB;clear eB;have hw:=HW.out;have p0:=cp.cell 0 rfl;have p1:=cp.cell 1 rfl;have p2:=cp.cell 2 rfl;have p3:=cp.cell 3 rfl;have p4:=cp.cell 4 rfl;have p5:=cp.cell 5 rfl;have p6:=cp.cell 6 rfl;have fs:=IT;go_wp2_with fail;clear p0 p1 p2 p3 p4 p5 p6;refine(kS2 _).mono ?_;rintro e vb ⟨sa,sc,sb,sd,m1,rfl,-,-,oA,oB,hb⟩;go_wp2_with fail;refine(kI B2 _ _ _ (.inr (.inr rfl)) oB.rd).mono ?_;rintro e vc ⟨ya,yc,rfl,oX,hb2⟩;have rX:=Rd.own oX;have cX:=bF oX;have HBX:=hid (hb.trans (hb2.mono hb.size));clear hb hb2 oX fs hw;go_wp2_with fail;go_meet
    case rel=>exact⟨ya,yc,by rw[EB.out],by rw[EB.out];exact cX,by rw[EB.out];exact rX,HBX.out⟩
  . have hm':¬(0:Int)<(m:Int):=by omega
    have eB:B=Bo:=by rw[HBB.out,if_neg hm]
    have EB:=hid eB;clear eB;go_wp2_with fail;go_meet
    case rel=>exact⟨ba,bc,by rw[EB.out],by rw[EB.out];exact cB,by rw[EB.out];exact rB,Below.refl _ _⟩
 case rest=>
 clear rB cB kS2;obtain⟨ba,bc,rfl,cB,rB,hb⟩:=hcut
 rename World=>vb
 replace b0:=b0.trans (hb.mono b0.size);replace cr:=cr.below hb;replace cd:=cd.below hb;replace cp:=cp.below hb;replace rA:=rA.below hb;clear hb kI;go_wp2_with fail;refine(k1 _).mono ?_;rintro e vc ⟨qa,qc,rfl,oX,hb⟩;replace b0:=b0.trans (hb.mono b0.size);replace cr:=cr.below hb;replace cd:=cd.below hb;replace cp:=cp.below hb;replace rA:=rA.below hb;replace rB:=rB.below hb;have r1:=Rd.own oX;clear hb oX k1;have p4:=cp.cell 4 rfl;go_upto_if 72 with fail
 go_cut[13,14,15] (fun y z q wx=>∃(a:Option Addr)(c:Nat)(b:Option Addr)(d:Nat)(g:Option Addr)(k:Nat),y=.slice a (D NA).length c/\z=.slice b (D NB).length d/\q=.slice g (D Q).length k/\(D NA).length<=c/\(D NB).length<=d/\Rd wx a (D NA)/\Rd wx b (D NB)/\Rd wx g (D Q)/\Below vc.heap.size vc wx)
 case first=>
  by_cases hE:0<=E
  . obtain⟨eQ,kA,kB⟩:=kU hE;have EQ:=hid eQ;clear eQ;go_wp2_with fail;refine(kA _ _ _ rA).mono ?_;rintro e vd ⟨ya,yc,rfl,oX,hb⟩;have rX:=Rd.own oX;have cX:=bF oX;have p4:=(cp.below hb).cell 4 rfl;replace rB:=rB.below hb;go_wp2_with fail;refine(kB _ _ _ rB).mono ?_;rintro e ve ⟨za,zc,rfl,oY,hb2⟩;have rY:=Rd.own oY;have cY:=bF oY;replace rX:=rX.below hb2;have HBX:=hid (hb.trans (hb2.mono hb.size));have HR:=hid (r1.below (hb.trans (hb2.mono hb.size)));clear hb hb2 oX oY p4;go_wp2_with fail;go_meet
    case rel=>exact⟨ya,yc,za,zc,qa,qc,rfl,rfl,by rw[EQ.out],cX,cY,rX,rY,by rw[EQ.out];exact HR.out,HBX.out⟩
  . obtain⟨eA,eB,kT⟩:=kV (by omega);have EA:=hid eA;have EB:=hid eB;clear eA eB;have q:IntKind.i64.wrap (-E)= -E:=by rw[IntKind.wrap_i64];omega
    go_wp2_with fail;clear q;refine(kT _).mono ?_;rintro e vd ⟨ya,yc,rfl,oX,hb⟩;have rX:=Rd.own oX;replace rA:=rA.below hb;replace rB:=rB.below hb;go_wp2_with fail;go_meet
    case rel=>exact⟨aa,ac,ba,bc,ya,yc,by rw[EA.out],by rw[EB.out],rfl,by rw[EA.out];exact cA,by rw[EB.out];exact cB,by rw[EA.out];exact rA,by rw[EB.out];exact rB,rX,hb⟩
 case rest=>
 clear rA rB cA cB r1 p4 kU kV;obtain⟨aa,ac,ba,bc,qa,qc,rfl,rfl,rfl,cA,cB,rA,rB,rQ,hb⟩:=hcut
 rename World=>vd
 replace b0:=b0.trans (hb.mono b0.size);replace cr:=cr.below hb;replace cd:=cd.below hb;clear hb cp;have d1:=cd.cell 1 rfl;go_wp2_with fail;clear d1;refine(kR1 _ _ _ _ _ cA rA rQ).mono ?_;rintro e ve ⟨rfl,hb⟩;replace b0:=b0.trans (hb.mono b0.size);replace cr:=cr.below hb;replace cd:=cd.below hb;replace rB:=rB.below hb;replace rQ:=rQ.below hb;clear hb kR1 rA cA;go_upto_region 18 with fail;obtain⟨vf,evf,cx,hb,-⟩:=eE ve #[.int .u64 h1,.int .u64 l1,.int .i64 f1,.bool true] 62;replace evf:=hid evf;replace b0:=b0.trans (hb.mono b0.size);replace cr:=cr.below hb;replace cd:=cd.below hb;replace rB:=rB.below hb;replace rQ:=rQ.below hb;rw[evf.out];clear evf;generalize ve.heap.size=ga at*;clear hb;have d1:=cd.cell 1 rfl;go_wp2_with fail;clear d1;refine(kR2 _ _ _ _ _ cB rB rQ).mono ?_;rintro e vg ⟨rfl,hb⟩;replace b0:=b0.trans (hb.mono b0.size);replace cr:=cr.below hb;replace cx:=cx.below hb;clear hb kR2 rB cB rQ cd;go_upto_region 19 with fail;obtain⟨vh,evh,cy,hb,-⟩:=eE vg #[.int .u64 h2,.int .u64 l2,.int .i64 f2,.bool true] 62;replace evh:=hid evh;replace b0:=b0.trans (hb.mono b0.size);replace cr:=cr.below hb;replace cx:=cx.below hb;rw[evh.out];clear evh;generalize vg.heap.size=gb at*;clear hb;have x0:=cr.cell 0 rfl;have z0:=cr.frozen 0;have x1:=cr.cell 1 rfl;have z1:=cr.frozen 1;have x2:=cr.cell 2 rfl;have z2:=cr.frozen 2;have x3:=cr.cell 3 rfl;have z3:=cr.frozen 3;have x4:=cr.cell 4 rfl;have z4:=cr.frozen 4;have x5:=cr.cell 5 rfl;have z5:=cr.frozen 5;have y0:=cx.cell 0 rfl;have y1:=cx.cell 1 rfl;have y2:=cx.cell 2 rfl;have y3:=cx.cell 3 rfl;have u0:=cy.cell 0 rfl;have u1:=cy.cell 1 rfl;have u2:=cy.cell 2 rfl;have u3:=cy.cell 3 rfl;have HB:=hid b0;clear b0 cr cx cy
 by_cases e1:h1=h2
 . by_cases e2:l1=l2
   . by_cases e3:f1=f2
     . have EY:=hid (HY.out ⟨e1,e2,e3⟩);subst e1 e2 e3;go_wp2_with fail;exact bodyPost_ret (v:=.agg #[.int .u64 h1,.int .u64 l1,.int .i64 0,.int .i64 0,.int .i64 f1,.bool true]) (by simp[results,Tryz.results14,go_sem,x0,x1,x2,x3,x4,x5]) rfl ⟨by rw[EY.out],pV HB.out _ (Nat.le_refl _) _ _ _ _ _ _⟩
     . have EN:=hid (HN.out (fun hh=>e3 hh.2.2))
       subst e1 e2;have q:(f1==f2)=false:=beq_eq_false_iff_ne.2 e3;go_wp2_with fail;exact bodyPost_ret (v:=.agg #[.int .u64 0,.int .u64 0,.int .i64 0,.int .i64 0,.int .i64 0,.bool false]) (by simp[results,Tryz.results14,go_sem,x0,x1,x2,x3,x4,x5]) rfl ⟨by rw[EN.out],pV HB.out _ (Nat.le_refl _) _ _ _ _ _ _⟩
   . have EN:=hid (HN.out (fun hh=>e2 hh.2.1))
     subst e1;have q:(l1==l2)=false:=beq_eq_false_iff_ne.2 e2;go_wp2_with fail;exact bodyPost_ret (v:=.agg #[.int .u64 0,.int .u64 0,.int .i64 0,.int .i64 0,.int .i64 0,.bool false]) (by simp[results,Tryz.results14,go_sem,x0,x1,x2,x3,x4,x5]) rfl ⟨by rw[EN.out],pV HB.out _ (Nat.le_refl _) _ _ _ _ _ _⟩
 . have EN:=hid (HN.out (fun hh=>e1 hh.1))
   have q:(h1==h2)=false:=beq_eq_false_iff_ne.2 e1;go_wp2_with fail;exact bodyPost_ret (v:=.agg #[.int .u64 0,.int .u64 0,.int .i64 0,.int .i64 0,.int .i64 0,.bool false]) (by simp[results,Tryz.results14,go_sem,x0,x1,x2,x3,x4,x5]) rfl ⟨by rw[EN.out],pV HB.out _ (Nat.le_refl _) _ _ _ _ _ _⟩

theorem zD (m:Nat):10^m<2^(4*m+1):=Nat.lt_of_le_of_lt (CT m) (Nat.pow_lt_pow_right (by omega) (by omega))

theorem FU (m s:Nat):10^m*2^s<2^(4*m+1+s):=by
 rw[Nat.pow_add 2 (4*m+1) s];exact Nat.mul_lt_mul_of_pos_right (zD m) (Nat.pow_pos (by omega))

theorem qB (k W:Int)(w:World)(h:¬(-5200<=k/\k<=5200/\1<=W/\W<=128)):
 Calls Tryz.prog 38 #[.int .i64 k,.int .i64 W] w fun e w'=>e=.returned (.agg #[.int .i64 0,.int .i64 0,.int .u64 0,.int .u64 0,.int .i64 0,.bool false,.bool false])/\Below w.heap.size w w':=by
 have hc:5200<k\/(¬5200<k/\k< -5200)\/(¬5200<k/\¬k< -5200/\W<1)\/(¬5200<k/\¬k< -5200/\¬W<1/\128<W):=by omega
 rcases hc with h1|⟨h1,h2⟩|⟨h1,h2,h3⟩|⟨h1,h2,h3,h4⟩
 all_goals
  go_enter Tryz.func38,Tryz.ntmps38;go_wp2_with fail;exact bodyPost_ret (v:=.agg #[.int .i64 0,.int .i64 0,.int .u64 0,.int .u64 0,.int .i64 0,.bool false,.bool false]) (by simp[results,Tryz.results38,go_sem]) rfl ⟨rfl,(Below.refl _ _).alloc (Nat.le_refl _) _⟩

theorem nA (m s N De:Nat)(k W b E:Int)(w:World)(hm:m<=5200)(hW1:1<=W)(hW2:W<=128)(hb1:-30000<=b)(hb2:b<=30000)(hE:b-W+1=E)(hs:s<=40000)
 (hc:(k=m/\E=s/\N=10^m/\De=2^s)\/(k=m/\ -E=s/\0<s/\N=10^m*2^s/\De=1)\/(-k=m/\0<m/\ -E=s/\0<s/\N=2^s/\De=10^m))
 (hQ:N/De<2^128)(kB:∀v:World,Calls Tryz.prog 86 #[.int .i64 k] v fun e v'=>e=.returned (.int .i64 b)/\Below v.heap.size v v'):
 Calls Tryz.prog 38 #[.int .i64 k,.int .i64 W] w fun e w'=>e=.returned (pwv k W (N/De) E (decide (N%De=0)) true)/\Below w.heap.size w w':=by
 have dT:(D (10^m)).length<=2400:=aE _ _ _ (zD m) (by omega);have d1:(D 1).length<=2400:=aE 1 1 _ (by omega) (by omega);have dP:(D (2^s)).length<=2400:=aE _ (s+1) _ (Nat.pow_lt_pow_right (by omega) (by omega)) (by omega)
 have dN:(D N).length<=2400/\(D De).length<=2400/\0<De:=by
  rcases hc with⟨_,_,rfl,rfl⟩|⟨_,_,_,rfl,rfl⟩|⟨_,_,_,_,rfl,rfl⟩
  . exact⟨dT,dP,Nat.pow_pos (by omega)⟩
  . exact⟨aE _ _ _ (FU m s) (by omega),d1,by omega⟩
  . exact⟨dP,dT,Nat.pow_pos (by omega)⟩
 have g1:¬5200<k:=by omega
 have g2:¬k< -5200:=by omega
 have g3:¬W<1:=by omega
 have g4:¬128<W:=by omega
 have w1:IntKind.i64.wrap (b-W)=b-W:=by rw[IntKind.wrap_i64];omega
 have w2:IntKind.i64.wrap (b-W+1)=E:=by rw[IntKind.wrap_i64];omega
 have w3:IntKind.i64.wrap (-k)= -k:=by rw[IntKind.wrap_i64];omega
 have w4:IntKind.i64.wrap (-E)= -E:=by rw[IntKind.wrap_i64];omega
 clear hE;have hz:=uX (N%De)
 have kD:=fun(v:World)(a b:Option Addr)(c d:Nat)(hc:(D N).length<=c)(ra:Rd v a (D N))(rb:Rd v b (D De))=>FG a b _ _ c d N De v rfl rfl dN.2.2 dN.1 dN.2.1 hc ra rb
 have kW:=fun(v:World)(ao:Option Addr)(c:Nat)(r:Rd v ao (D (N/De)))=>fC ao _ c (N/De) v rfl hQ r
 clear hQ dN dP;generalize N/De=Q at*;generalize N%De=R at*;generalize decide (R=0)=ex at*;replace hc:=hid hc;unfold pwv;obtain⟨v0,hw0,c0,b0,-⟩:=eE w #[.int .i64 0,.int .i64 0,.int .u64 0,.int .u64 0,.int .i64 0,.bool false,.bool false] 80;go_enter Tryz.func38,Tryz.ntmps38;go_wp2_with fail;refine(kB _).mono ?_;rintro e v1 ⟨rfl,B⟩;clear hw0;go_wp2_with fail;refine(aU 1 _ (by omega)).mono ?_;rintro e v2 ⟨n1,c1,rfl,on1,h2⟩;replace B:=aL B h2;clear h2;go_wp2_with fail;refine(aU 1 _ (by omega)).mono ?_;rintro e v3 ⟨n2,c2,rfl,on2,h3⟩;replace on1:=cH on1 h3;replace B:=aL B h3;clear h3;have kT:=dO m v3 (by omega)
 have kL:=fun(v:World) n c q (hq:(D q).length<=2400)(r:Rd v n (D q))=>aN n _ c s q v rfl (Nat.le_trans hq (by decide)) (by omega) r
 replace hc:=hc.out;generalize 10^m=T at*;generalize 2^s=P at*;rcases hc with⟨hk,hl,rfl,rfl⟩|⟨hk,hl,h0,rfl,rfl⟩|⟨hk,h1,hl,h0,rfl,rfl⟩
 all_goals
  rw[<-hk]at kT;rw[<-hl]at kL
  first|have g5:0<=k:=by omega|have g5:¬0<=k:=by omega
  first|have g6:0<=E:=by omega|have g6:¬0<=E:=by omega
  clear hk hl hm hs
  try clear h0
  try clear h1
  go_wp2_with fail;refine kT.mono ?_;clear kT;rintro e v4 ⟨n3,c3,rfl,on3,h4⟩;replace on1:=cH on1 h4;replace on2:=cH on2 h4;replace B:=aL B h4;clear h4;go_wp2_with fail
 refine(kL v4 n2 c2 1 d1 (Rd.own on2)).mono ?_;rw[Nat.one_mul];rotate_left;refine(kL v4 n3 c3 T dT (Rd.own on3)).mono ?_;rotate_left;refine(kL v4 n1 c1 1 d1 (Rd.own on1)).mono ?_;rw[Nat.one_mul];rotate_left
 all_goals
  rintro e v5 ⟨n4,c4,rfl,on4,h5⟩;replace on2:=cH on2 h5;replace on3:=cH on3 h5;replace B:=aL B h5;clear on1 h5 kL;go_wp2_with fail
 refine(kD v5 n3 n4 c3 c4 (bF on3) (Rd.own on3) (Rd.own on4)).mono ?_;rotate_left;refine(kD v5 n4 n2 c4 c2 (bF on4) (Rd.own on4) (Rd.own on2)).mono ?_;rotate_left;refine(kD v5 n4 n3 c4 c3 (bF on4) (Rd.own on4) (Rd.own on3)).mono ?_;rotate_left
 all_goals
  rintro e v6 ⟨n5,c5,n6,c6,rfl,r5,r6,h6⟩;replace B:=aL B h6;clear h6 kD r6 on2 on3 on4;go_wp2_with fail;refine(kW v6 n5 c5 r5).mono ?_;rintro e v7 ⟨rfl,h7⟩;replace B:=aL B h7;clear h7 kW r5;replace c0:=c0.below B;have q0:=c0.cell 0 rfl;have q1:=c0.cell 1 rfl;have q2:=c0.cell 2 rfl;have q3:=c0.cell 3 rfl;have q4:=c0.cell 4 rfl;have q5:=c0.cell 5 rfl;have q6:=c0.cell 6 rfl;have z:=c0.frozen;have BB:=b0.trans (B.mono b0.size);go_wp2_with fail;exact bodyPost_ret (v:=.agg #[.int .i64 k,.int .i64 W,.int .u64 (M.hiN Q:Int),.int .u64 (M.loN Q:Int),.int .i64 E,.bool ex,.bool true]) (by simp[results,Tryz.results38,go_sem,q0,q1,q2,q3,q4,q5,q6]) rfl ⟨rfl,GU BB (Nat.le_refl _) _ _ _ _ _ _ _⟩

theorem iX (k W:Int)(w:World):
 Calls Tryz.prog 38 #[.int .i64 k,.int .i64 W] w fun e w'=>e=.returned (tpv k W)/\Below w.heap.size w w':=by
 by_cases h:-5200<=k/\k<=5200/\1<=W/\W<=128
 . have ht:tpv k W=pwv k W (tX k W/tY k W) (cE k W) (decide (tX k W%tY k W=0)) true:=by unfold tpv;rw[if_pos h]
   rw[ht];have hq:=j3 k W h;have hb:=tC k ⟨h.1,h.2.1⟩;have hE:cE k W=tb k-W+1:=rfl;rcases Int.lt_or_le k 0 with h0|h0
   . obtain⟨m,rfl⟩:∃m:Nat,k= -(m:Int):=⟨(-k).toNat,by omega⟩;have hm:0<m:=by omega
     have hbp:=dJ (10^m) (Nat.pow_pos (by omega));have htb:=pK m (by omega) hm;obtain⟨s,hs⟩:∃s:Nat,cE (-(m:Int)) W= -(s:Int):=⟨(-(cE (-(m:Int)) W)).toNat,by rw[hE,htb];omega⟩;have hs0:0<s:=by rw[hE,htb]at hs;omega
     have eX:tX (-(m:Int)) W=2^s:=by unfold tX;rw[hs,nM,show(- -(s:Int)).toNat=s by omega,Nat.one_mul]
     have eY:tY (-(m:Int)) W=10^m:=by unfold tY;rw[hs,oE,show(-(s:Int)).toNat=0 by omega,Nat.pow_zero,Nat.mul_one]
     rw[eX,eY]at hq|-;rw[hs];rw[hE]at hs
     exact nA m s _ _ _ W _ _ w (by omega) (by omega) (by omega) (by omega) (by omega) hs (by omega) (.inr (.inr ⟨by omega,hm,by omega,hs0,rfl,rfl⟩)) hq (fun v=>gM _ v)
   . obtain⟨m,rfl⟩:∃m:Nat,k=(m:Int):=⟨k.toNat,by omega⟩;rcases Int.lt_or_le (cE (m:Int) W) 0 with h1|h1
     . obtain⟨s,hs⟩:∃s:Nat,cE (m:Int) W= -(s:Int):=⟨(-(cE (m:Int) W)).toNat,by omega⟩;have hs0:0<s:=by omega
       have eX:tX (m:Int) W=10^m*2^s:=by unfold tX;rw[hs,lI,show(- -(s:Int)).toNat=s by omega]
       have eY:tY (m:Int) W=1:=by unfold tY;rw[hs,lJ,show(-(s:Int)).toNat=0 by omega,Nat.pow_zero]
       rw[eX,eY]at hq|-;rw[hs];rw[hE]at hs
       exact nA m s _ _ _ W _ _ w (by omega) (by omega) (by omega) (by omega) (by omega) hs (by omega) (.inr (.inl ⟨rfl,by omega,hs0,rfl,rfl⟩)) hq (fun v=>gM _ v)
     . obtain⟨s,hs⟩:∃s:Nat,cE (m:Int) W=(s:Int):=⟨(cE (m:Int) W).toNat,by omega⟩;have eX:tX (m:Int) W=10^m:=by unfold tX;rw[hs,lI,show(-(s:Int)).toNat=0 by omega,Nat.pow_zero,Nat.mul_one]
       have eY:tY (m:Int) W=2^s:=by unfold tY;rw[hs,lJ,Int.toNat_natCast,Nat.one_mul]
       rw[eX,eY]at hq|-;rw[hs];rw[hE]at hs
       exact nA m s _ _ _ W _ _ w (by omega) (by omega) (by omega) (by omega) (by omega) hs (by omega) (.inl ⟨rfl,rfl,rfl,rfl⟩) hq (fun v=>gM _ v)
 . have ht:tpv k W=pwv 0 0 0 0 false false:=by unfold tpv;rw[if_neg h]
   rw[ht];exact qB k W w h

theorem Own.widen4 {v:World}{lo hi lo' hi':Nat}{ao:Option Addr}{cap:Nat}{r:List Nat}(h:Own v lo hi ao cap r)(h1:lo'<=lo)(h2:hi<=hi'):Own v lo' hi' ao cap r:=
 ⟨h.row,fun k hk=>by have:=h.place k hk;omega⟩

theorem FE (d:Nat)(k W:Int)(T:Nat)(E:Int)(x:Bool)(w:World)(A Bv:Nat)
 (kT:∀v:World,Calls Tryz.prog 38 #[.int .i64 k,.int .i64 W] v fun e w'=>e=.returned (.agg #[.int .i64 k,.int .i64 W,.int .u64 (M.hiN T:Int),.int .u64 (M.loN T:Int),.int .i64 E,.bool x,.bool true])/\Below v.heap.size v w')
 (kO:∀v:World,Calls Tryz.prog 21 #[.int .u64 (d:Int)] v fun e w'=>Ret v w' e (D d))
 (k1:∀v:World,Calls Tryz.prog 21 #[.int .u64 1] v fun e w'=>Ret v w' e (D 1))
 (k2:∀v:World,Calls Tryz.prog 63 #[.agg #[.int .u64 (M.hiN T:Int),.int .u64 (M.loN T:Int)]] v fun e w'=>Ret v w' e (D T))
 (kM:∀(v:World)(ao bo:Option Addr)(c e:Nat),Rd v ao (D d)->Rd v bo (D T)->Calls Tryz.prog 22 #[.slice ao (D d).length c,.slice bo (D T).length e] v fun e w'=>Ret v w' e (D A))
 (kA:∀(v:World)(ao bo:Option Addr)(c e:Nat),Rd v ao (D T)->Rd v bo (D 1)->Calls Tryz.prog 53 #[.slice ao (D T).length c,.slice bo (D 1).length e] v fun e w'=>Ret v w' e (D (T+1)))
 (kN:x=false->∀(v:World)(ao bo:Option Addr)(c e:Nat),Rd v ao (D d)->Rd v bo (D (T+1))->Calls Tryz.prog 22 #[.slice ao (D d).length c,.slice bo (D (T+1)).length e] v fun e w'=>Ret v w' e (D Bv))
 (hB:x=true->Bv=A)
 (kU:∀(v:World)(ao:Option Addr)(c:Nat),Rd v ao (D A)->Calls Tryz.prog 39 #[.slice ao (D A).length c] v fun e w'=>Ret v w' e (L A))
 (kV:∀(v:World)(ao:Option Addr)(c:Nat),Rd v ao (D Bv)->Calls Tryz.prog 39 #[.slice ao (D Bv).length c] v fun e w'=>Ret v w' e (L Bv)):
 Calls Tryz.prog 41 #[.int .u64 (d:Int),.agg #[.int .i64 k,.int .i64 W,.int .u64 (M.hiN T:Int),.int .u64 (M.loN T:Int),.int .i64 E,.bool x,.bool true]] w fun e w'=>Sw w w' e (L A) (L Bv) E true:=by
 obtain⟨v0,hV,hP,hR,b0,-⟩:=new2 w #[.int .i64 k,.int .i64 W,.int .u64 (M.hiN T:Int),.int .u64 (M.loN T:Int),.int .i64 E,.bool x,.bool true] 80 #[.slice none 0 0,.slice none 0 0,.int .i64 0,.bool false] 84;go_enter Tryz.func41,Tryz.ntmps41;go_upto_region 1 with fail;clear hV
 go_cut[18] (fun z wx=>z=.bool false/\Below v0.heap.size v0 wx)
 case first=>
  have A0:Below v0.heap.size v0 v0.drew:=(Below.refl _ _).drew
  have KB:∀v,Below v0.heap.size v0 v->(fun v=>v.cell? ⟨w.heap.size,0,none⟩=some (.int .i64 k)/\v.cell? ⟨w.heap.size,1,none⟩=some (.int .i64 W)/\v.cell? ⟨w.heap.size,2,none⟩=some (.int .u64 (M.hiN T:Int))/\v.cell? ⟨w.heap.size,3,none⟩=some (.int .u64 (M.loN T:Int))/\v.cell? ⟨w.heap.size,4,none⟩=some (.int .i64 E)/\v.cell? ⟨w.heap.size,5,none⟩=some (.bool x)/\v.cell? ⟨w.heap.size,6,none⟩=some (.bool true)) v:=fun v hv=>⟨(hP.below hv).cell 0 rfl,(hP.below hv).cell 1 rfl,(hP.below hv).cell 2 rfl,(hP.below hv).cell 3 rfl,(hP.below hv).cell 4 rfl,(hP.below hv).cell 5 rfl,(hP.below hv).cell 6 rfl⟩
  go_region_held3 (fun v=>v.cell? ⟨w.heap.size,0,none⟩=some (.int .i64 k)/\v.cell? ⟨w.heap.size,1,none⟩=some (.int .i64 W)/\v.cell? ⟨w.heap.size,2,none⟩=some (.int .u64 (M.hiN T:Int))/\v.cell? ⟨w.heap.size,3,none⟩=some (.int .u64 (M.loN T:Int))/\v.cell? ⟨w.heap.size,4,none⟩=some (.int .i64 E)/\v.cell? ⟨w.heap.size,5,none⟩=some (.bool x)/\v.cell? ⟨w.heap.size,6,none⟩=some (.bool true)) (first|with_reducible exact KB _ hb1|with_reducible exact KB _ A0) (first|(go_at_call 38;refine(kT _).mono ?_;rintro e u1 ⟨rfl,hb0⟩;have hb1:=aL (w1:=v0) A0 hb0;clear hb0))
  all_goals go_wp2_with fail
  all_goals go_meet
  all_goals exact⟨rfl,hb1⟩
 case rest=>
 obtain⟨rfl,hbx⟩:=hcut;replace hR:=hR.below hbx;replace hP:=hP.below hbx;replace b0:=b0.trans (hbx.mono b0.size);clear hbx kT;go_upto_region 3 with fail
 go_cut[5] (fun z wx=>∃(a1:Option Addr)(c1:Nat),z=.slice a1 (D A).length c1/\Rd wx a1 (D A)/\Below wc.heap.size wc wx)
 case first=>
  have A0:Below wc.heap.size wc wc.drew:=(Below.refl _ _).drew
  have KB:∀v,Below wc.heap.size wc v->(fun v=>v.cell? ⟨w.heap.size,2,none⟩=some (.int .u64 (M.hiN T:Int))/\v.cell? ⟨w.heap.size,3,none⟩=some (.int .u64 (M.loN T:Int))) v:=fun v hv=>⟨(hP.below hv).cell 2 rfl,(hP.below hv).cell 3 rfl⟩
  go_region_held3 (fun v=>v.cell? ⟨w.heap.size,2,none⟩=some (.int .u64 (M.hiN T:Int))/\v.cell? ⟨w.heap.size,3,none⟩=some (.int .u64 (M.loN T:Int))) (first|with_reducible exact KB _ hb5|with_reducible exact KB _ hb4|with_reducible exact KB _ hb3|with_reducible exact KB _ hb2|with_reducible exact KB _ hb1|with_reducible exact KB _ A0) (first|(have hq:=hb2;clear hq;go_at_call 22;refine(kM _ _ _ _ _ r1 r2).mono ?_;rintro e u3 ⟨a3,c3,rfl,o3,hb0⟩;have hb3:=aL (w1:=wc) hb2 hb0;have r3:=Rd.own o3;clear hb0)|(have hq:=hb1;clear hq;go_at_call 63;refine(k2 _).mono ?_;rintro e u2 ⟨a2,c2,rfl,o2,hb0⟩;have hb2:=aL (w1:=wc) hb1 hb0;have r2:=Rd.own o2;replace r1:=r1.below hb0;clear hb0)|(go_at_call 21;refine(kO _).mono ?_;rintro e u1 ⟨a1,c1,rfl,o1,hb0⟩;have hb1:=aL (w1:=wc) A0 hb0;have r1:=Rd.own o1;clear hb0))
  all_goals go_wp2_with fail
  all_goals go_meet
  all_goals exact⟨a3,c3,rfl,r3,hb3⟩
 case rest=>
 obtain⟨la,lc,rfl,rl,hbx⟩:=hcut;replace hR:=hR.below hbx;replace hP:=hP.below hbx;replace b0:=b0.trans (hbx.mono b0.size);clear hbx kM;have p5:=hP.cell 5 rfl;go_upto_if 29 with fail;clear p5
 go_cut[6] (fun z wx=>∃(a1:Option Addr)(c1:Nat),z=.slice a1 (D Bv).length c1/\Rd wx a1 (D Bv)/\Below wc.heap.size wc wx)
 case first=>
  cases x
  . have kN':=kN rfl;go_upto_region 6 with fail;have A0:Below wc.heap.size wc wc.drew:=(Below.refl _ _).drew
    have KB:∀v,Below wc.heap.size wc v->(fun v=>v.cell? ⟨w.heap.size,2,none⟩=some (.int .u64 (M.hiN T:Int))/\v.cell? ⟨w.heap.size,3,none⟩=some (.int .u64 (M.loN T:Int))) v:=fun v hv=>⟨(hP.below hv).cell 2 rfl,(hP.below hv).cell 3 rfl⟩
    go_region_held3 (fun v=>v.cell? ⟨w.heap.size,2,none⟩=some (.int .u64 (M.hiN T:Int))/\v.cell? ⟨w.heap.size,3,none⟩=some (.int .u64 (M.loN T:Int))) (first|with_reducible exact KB _ hb5|with_reducible exact KB _ hb4|with_reducible exact KB _ hb3|with_reducible exact KB _ hb2|with_reducible exact KB _ hb1|with_reducible exact KB _ A0) (first|(have hq:=hb4;clear hq;go_at_call 22;refine(kN' _ _ _ _ _ r1 r4).mono ?_;rintro e u5 ⟨a5,c5,rfl,o5,hb0⟩;have hb5:=aL (w1:=wc) hb4 hb0;have r5:=Rd.own o5;clear hb0)|(have hq:=hb3;clear hq;go_at_call 53;refine(kA _ _ _ _ _ r2 r3).mono ?_;rintro e u4 ⟨a4,c4,rfl,o4,hb0⟩;have hb4:=aL (w1:=wc) hb3 hb0;have r4:=Rd.own o4;replace r1:=r1.below hb0;clear hb0)|(have hq:=hb2;clear hq;go_at_call 21;refine(k1 _).mono ?_;rintro e u3 ⟨a3,c3,rfl,o3,hb0⟩;have hb3:=aL (w1:=wc) hb2 hb0;have r3:=Rd.own o3;replace r1:=r1.below hb0;replace r2:=r2.below hb0;clear hb0)|(have hq:=hb1;clear hq;go_at_call 63;refine(k2 _).mono ?_;rintro e u2 ⟨a2,c2,rfl,o2,hb0⟩;have hb2:=aL (w1:=wc) hb1 hb0;have r2:=Rd.own o2;replace r1:=r1.below hb0;clear hb0)|(go_at_call 21;refine(kO _).mono ?_;rintro e u1 ⟨a1,c1,rfl,o1,hb0⟩;have hb1:=aL (w1:=wc) A0 hb0;have r1:=Rd.own o1;clear hb0))
    all_goals go_wp2_with fail
    all_goals go_meet
    all_goals exact⟨a5,c5,rfl,r5,hb5⟩
  . have e:=hB rfl;go_wp2_with fail;go_meet
    case rel=>
     subst e;exact⟨la,lc,rfl,rl,Below.refl _ _⟩
 case rest=>
 obtain⟨ha,hc,rfl,rh,hbx⟩:=hcut;replace hR:=hR.below hbx;replace hP:=hP.below hbx;replace rl:=rl.below hbx;replace b0:=b0.trans (hbx.mono b0.size);have lR:=hR.lt;clear hbx kN kO k1 k2 kA hB;go_upto_region 7 with fail;have A0:Below wc.heap.size wc wc.drew:=(Below.refl _ _).drew
 have KB:∀v,Below wc.heap.size wc v->(fun v=>v.cell? ⟨w.heap.size,4,none⟩=some (.int .i64 E)) v:=fun v hv=>(hP.below hv).cell 4 rfl
 have KS:∀v a b c e,Below wc.heap.size wc v->(fun v=>v.cell? ⟨w.heap.size,4,none⟩=some (.int .i64 E)) ((((v.setCell ⟨w.heap.size+1,0,none⟩ a).setCell ⟨w.heap.size+1,1,none⟩ b).setCell ⟨w.heap.size+1,2,none⟩ c).setCell ⟨w.heap.size+1,3,none⟩ e):=fun v a b c e hv=>
  (((((hP.below hv).far ⟨w.heap.size+1,0,none⟩ (by simp) a).far ⟨w.heap.size+1,1,none⟩ (by simp) b).far ⟨w.heap.size+1,2,none⟩ (by simp) c).far ⟨w.heap.size+1,3,none⟩ (by simp) e).cell 4 rfl
 go_region_held3 (fun v=>v.cell? ⟨w.heap.size,4,none⟩=some (.int .i64 E)) (first|with_reducible exact KB _ hb2|with_reducible exact KB _ hb1|with_reducible exact KB _ A0|with_reducible exact KS _ _ _ _ _ hb2)
  (first|(have hq:=hb1;clear hq;go_at_call 39;refine(kV _ _ _ (rh.below hb1)).mono ?_;rintro e u2 ⟨ob,od,rfl,o2,hb0⟩;have hb2:=aL (w1:=wc) hb1 hb0;have oB:=Own.of o2;replace oA:=oA.keep hb0;have s12:=hb0.size;have r0:=(hR.below hb2).cell 0 rfl;have s0:=(hR.below hb2).frozen 0;have r1:=(hR.below hb2).cell 1 rfl;have s1:=(hR.below hb2).frozen 1;have r2:=(hR.below hb2).cell 2 rfl;have s2:=(hR.below hb2).frozen 2;have r3:=(hR.below hb2).cell 3 rfl;have s3:=(hR.below hb2).frozen 3;clear hb0)|(go_at_call 39;refine(kU _ _ _ (rl.below A0)).mono ?_;rintro e u1 ⟨oa,oc,rfl,o1,hb0⟩;have hb1:=aL (w1:=wc) A0 hb0;have oA:=Own.of o1;clear hb0))
 all_goals replace hR:=hR.below hb2
 all_goals replace b0:=b0.trans (hb2.mono b0.size)
 all_goals go_wp2_with fail
 all_goals(
  have z1:=hb1.size;obtain⟨Yw,eY,R5,B5,gg,sz⟩:=hR.set4 (.slice oa (L A).length oc) (.slice ob (L Bv).length od) (.int .i64 E) (.bool true);rw[eY];replace B5:=B5 _ _ b0 (by omega)
  have oA':=oA.grown gg (fun k h1 h2 e=>by injection e with e;have:wc.drew.heap.size=wc.heap.size:=rfl;omega)
  have oB':=oB.grown gg (fun k h1 h2 e=>by injection e with e;omega)
  clear gg eY;have q0:=R5.cell 0 rfl;have q1:=R5.cell 1 rfl;have q2:=R5.cell 2 rfl;have q3:=R5.cell 3 rfl;refine bodyPost_ret (v:=.agg #[.slice oa (L A).length oc,.slice ob (L Bv).length od,.int .i64 E,.bool true]) (by simp[results,Tryz.results41,go_sem,q0,q1,q2,q3]) rfl ⟨oa,oc,ob,od,u1.heap.size,rfl,?_,?_,oA'.widen4 ?_ (Nat.le_refl _),oB'.widen4 (Nat.le_refl _) (by omega),B5⟩
  . omega
  . omega
  . have:wc.drew.heap.size=wc.heap.size:=rfl
    omega)

theorem QW (k W:Int):0<tY k W:=Nat.mul_pos (wV k) (Nat.pow_pos (by omega))

theorem yN (k W:Int)(h:-5200<=k/\k<=5200/\1<=W/\W<=128):2^(W-1).toNat<=tX k W/tY k W/\tX k W/tY k W<2^W.toNat:=by
 have hY:=QW k W;rw[Nat.le_div_iff_mul_le hY,Nat.div_lt_iff_lt_mul hY];unfold tX tY;obtain⟨v,rfl⟩:∃v:Nat,W=(v:Int):=⟨W.toNat,by omega⟩;have ev:((v:Int)-1).toNat=v-1:=by omega
 have ev2:((v:Int)).toNat=v:=by omega
 rw[ev,ev2];rcases Int.lt_or_le k 0 with h0|h0
 . obtain⟨m,rfl⟩:∃m:Nat,k= -(m:Int):=⟨(-k).toNat,by omega⟩;have hm:0<m:=by omega
   have hb:=dJ (10^m) (Nat.pow_pos (by omega));have h1:=eF (10^m) (Nat.pow_pos (by omega));have h1':=dD (10^m);have h2:=mX (aB (10^m)-1) m hm;rw[nM,oE];unfold cE;rw[pK m (by omega) hm];generalize aB (10^m)=b at*;have e1:(-(-(b:Int)-(v:Int)+1)).toNat=(b-1)+v:=by omega
   have e2:(-(b:Int)-(v:Int)+1).toNat=0:=by omega
   rw[e1,e2,Nat.one_mul,Nat.pow_zero,Nat.mul_one]
   constructor
   . rw[show b-1+v=(v-1)+b by omega,Nat.pow_add];exact Nat.mul_le_mul_left _ (Nat.le_of_lt h1')
   . rw[Nat.pow_add,Nat.mul_comm];exact Nat.mul_lt_mul_of_pos_left (by omega) (Nat.pow_pos (by omega))
 . obtain⟨m,rfl⟩:∃m:Nat,k=(m:Int):=⟨k.toNat,by omega⟩;have hb:=dJ (10^m) (Nat.pow_pos (by omega));have h1:=dD (10^m);have h1':=eF (10^m) (Nat.pow_pos (by omega));rw[lI,lJ];unfold cE;rw[pR m (by omega)];generalize aB (10^m)=b at*;obtain⟨p,hp⟩:∃p:Nat,p=(-((b:Int)-1-(v:Int)+1)).toNat:=⟨_,rfl⟩;obtain⟨q,hq⟩:∃q:Nat,q=((b:Int)-1-(v:Int)+1).toNat:=⟨_,rfl⟩;rw[<-hp,<-hq,Nat.one_mul];have e1:b+p=v+q:=by omega
   constructor
   . rw[<-Nat.pow_add,show v-1+q=(b-1)+p by omega,Nat.pow_add];exact Nat.mul_le_mul_right _ h1'
   . rw[<-Nat.pow_add,<-e1,Nat.pow_add];exact Nat.mul_lt_mul_of_pos_right h1 (Nat.pow_pos (by omega))

end Go.Proofs.YtfdgkleoaehjaaaGreatDoor
