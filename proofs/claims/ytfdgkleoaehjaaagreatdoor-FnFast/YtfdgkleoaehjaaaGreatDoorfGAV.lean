import Derived.Test.YtfdgkleoaehjaaaGreatDoorfGAT
import Derived.Test.YtfdgkleoaehjaaaGreatDoorfSp2
set_option maxHeartbeats 16000000
set_option maxRecDepth 10000
namespace Go.Proofs.YtfdgkleoaehjaaaGreatDoor
open Go.RowKit
set_option linter.unusedVariables false
set_option maxRecDepth 100000

def Wo (P:Nat->Prop)(v w':World)(e:Ending):Prop:=∃X:Nat,X<2^128/\P X/\e=.returned (.agg #[.int .u64 (M.hiN X:Int),.int .u64 (M.loN X:Int)])/\Below v.heap.size v w'

def Wp (R:Nat->Bool->Prop)(w w':World)(e:Ending):Prop:=∃(Y:Nat)(ok:Bool),R Y ok/\e=.returned (.tuple #[.agg #[.int .u64 (M.hiN Y:Int),.int .u64 (M.loN Y:Int)],.bool ok])/\Below w.heap.size w w'

theorem QI (f cl:Int)(ng:Bool)(s:Nat)(q:Int)(hs:s<2^128)(d0 d1 d2 d3 d4:Int)(d5:Bool)(hd:d0≠0)(tp b E:Int)(H Lw:Nat)(w:World)(P:Nat->Prop)(R:Nat->Bool->Prop)
 (r0:cl≠1->cl≠2->cl≠3->cl≠4->cl≠5->R 0 false)(r2:cl=2->d0<=b->R 0 false)(r3:cl=3->b≠d0\/E<1\/tp<=E->R 0 false)
 (hE:wrap64 (wrap64 (wrap64 (q+d2)+d0)-1)=E)(h2:IntKind.i64.wrap (d0-2)=d0-2)(h1:IntKind.i64.wrap (d0-1)=d0-1)
 (kE:∀v:World,Calls Tryz.prog 9 #[.int .i64 f] v fun e w'=>e=.returned (.agg #[.int .i64 d0,.int .i64 d1,.int .i64 d2,.int .i64 d3,.int .i64 d4,.bool d5])/\Below v.heap.size v w')
 (kT:∀v:World,Calls Tryz.prog 65 #[.agg #[.int .i64 d0,.int .i64 d1,.int .i64 d2,.int .i64 d3,.int .i64 d4,.bool d5]] v fun e w'=>e=.returned (.int .i64 tp)/\Below v.heap.size v w')
 (kB:∀(v:World)(ao:Option Addr)(c:Nat),Rd v ao (D s)->Calls Tryz.prog 56 #[.slice ao (D s).length c] v fun e w'=>e=.returned (.int .i64 b)/\w'=v)
 (k2:∀v:World,Calls Tryz.prog 43 #[.int .i64 (d0-2)] v fun e w'=>Ret v w' e (D H))
 (kL:∀(v:World)(ao:Option Addr)(c:Nat),Rd v ao (D s)->Calls Tryz.prog 66 #[.slice ao (D s).length c,.int .i64 (d0-1)] v fun e w'=>Ret v w' e (D Lw))
 (kM1:cl=1->∀v:World,Calls Tryz.prog 64 #[.agg #[.int .i64 d0,.int .i64 d1,.int .i64 d2,.int .i64 d3,.int .i64 d4,.bool d5],.bool ng,.int .i64 0,.bool false,.slice none 0 0] v fun e w'=>Wo P v w' e)
 (kM4:cl=4->∀v:World,Calls Tryz.prog 64 #[.agg #[.int .i64 d0,.int .i64 d1,.int .i64 d2,.int .i64 d3,.int .i64 d4,.bool d5],.bool ng,.int .i64 tp,.bool true,.slice none 0 0] v fun e w'=>Wo P v w' e)
 (kM5:cl=5->∀(v:World)(ao:Option Addr)(c:Nat),Rd v ao (D H)->Calls Tryz.prog 64 #[.agg #[.int .i64 d0,.int .i64 d1,.int .i64 d2,.int .i64 d3,.int .i64 d4,.bool d5],.bool false,.int .i64 tp,.bool true,.slice ao (D H).length c] v fun e w'=>Wo P v w' e)
 (kM2:cl=2->b<d0->∀(v:World)(ao:Option Addr)(c:Nat),Rd v ao (D s)->Calls Tryz.prog 64 #[.agg #[.int .i64 d0,.int .i64 d1,.int .i64 d2,.int .i64 d3,.int .i64 d4,.bool d5],.bool ng,.int .i64 0,.bool false,.slice ao (D s).length c] v fun e w'=>Wo P v w' e)
 (kM3:cl=3->b=d0->1<=E->E<tp->∀(v:World)(ao:Option Addr)(c:Nat),Rd v ao (D Lw)->Calls Tryz.prog 64 #[.agg #[.int .i64 d0,.int .i64 d1,.int .i64 d2,.int .i64 d3,.int .i64 d4,.bool d5],.bool ng,.int .i64 E,.bool true,.slice ao (D Lw).length c] v fun e w'=>Wo P v w' e)
 (kU:∀X:Nat,X<2^128->P X->∃(tc:Int)(tn:Bool)(th tl tq:Int),(tc=cl/\tn=ng/\th=(M.hiN s:Int)/\tl=(M.loN s:Int)/\tq=q->R X true)/\(¬(tc=cl/\tn=ng/\th=(M.hiN s:Int)/\tl=(M.loN s:Int)/\tq=q)->R 0 false)/\∀v:World,Calls Tryz.prog 67 #[.int .i64 f,.agg #[.int .u64 (M.hiN X:Int),.int .u64 (M.loN X:Int)]] v fun e w'=>e=.returned (.agg #[.int .i64 tc,.bool tn,.int .u64 th,.int .u64 tl,.int .i64 tq])/\Below v.heap.size v w'):
 Calls Tryz.prog 25 #[.int .i64 f,.agg #[.int .i64 cl,.bool ng,.int .u64 (M.hiN s:Int),.int .u64 (M.loN s:Int),.int .i64 q]] w fun e w'=>Wp R w w' e:=by
 have hz:(d0==0)=false:=by simp[hd]
 have H0:=hid r0;have H2:=hid r2;have H3:=hid r3;have HU:=hid kU;clear r0 r2 r3 kU;obtain⟨cP,cR,b0⟩:=Cls.new2 w #[.int .i64 cl,.bool ng,.int .u64 (M.hiN s:Int),.int .u64 (M.loN s:Int),.int .i64 q] #[.int .u64 0,.int .u64 0] 67 27;go_enter Tryz.func25,Tryz.ntmps25;go_wp2_with fail;refine(kE _).mono ?_;rintro e v1 ⟨rfl,hb⟩;replace cP:=cP.below hb;replace cR:=cR.below hb;replace b0:=b0.trans (hb.mono b0.size);clear hb kE;have l1:=cR.lt;go_upto_region 2 with fail;have bA:=(Below.refl v1.heap.size v1).alloc (Nat.le_refl _) (.cells #[.int .i64 d0,.int .i64 d1,.int .i64 d2,.int .i64 d3,.int .i64 d4,.bool d5] 37);have cD:=Cls.new v1 #[.int .i64 d0,.int .i64 d1,.int .i64 d2,.int .i64 d3,.int .i64 d4,.bool d5] 37;replace cP:=cP.below bA;replace cR:=cR.below bA;replace b0:=b0.trans (bA.mono b0.size);clear bA;generalize v1.alloc (.cells #[.int .i64 d0,.int .i64 d1,.int .i64 d2,.int .i64 d3,.int .i64 d4,.bool d5] 37)=v2 at*;obtain⟨gd,hgd⟩:∃gd,gd=v1.heap.size:=⟨_,rfl⟩;rw[<-hgd]at cD l1|-;clear hgd;have i0:=cD.cell 0 rfl;have l2:=cD.lt;go_upto_region 5 with fail;have bA:=(Below.refl v2.heap.size v2).alloc (Nat.le_refl _) (.cells #[.int .u64 0,.int .u64 0] 27);have cW:=Cls.new v2 #[.int .u64 0,.int .u64 0] 27;replace cP:=cP.below bA;replace cR:=cR.below bA;replace cD:=cD.below bA;replace b0:=b0.trans (bA.mono b0.size);clear bA;generalize v2.alloc (.cells #[.int .u64 0,.int .u64 0] 27)=v3 at*;obtain⟨gw,hgw⟩:∃gw,gw=v2.heap.size:=⟨_,rfl⟩;rw[<-hgw]at cW l2|-;clear hgw i0;have p2:=cP.cell 2 rfl;have p3:=cP.cell 3 rfl;go_wp2_with fail;refine(gF s hs _).mono ?_;rintro e v4 ⟨sa,sc,rfl,ho,hb⟩;replace cP:=cP.below hb;replace cR:=cR.below hb;replace cD:=cD.below hb;replace cW:=cW.below hb;replace b0:=b0.trans (hb.mono b0.size);have rS:=Rd.own ho;clear hb ho p2 p3;have n1:gw≠w.heap.size:=by omega
 have n2:gw≠w.heap.size+1:=by omega
 have n3:gw≠gd:=by omega
 have lw:w.heap.size<=gw:=by omega
 clear l1 l2
 have KD:∀v,Below v4.heap.size v4 v->(fun v:World=>v.cell? ⟨gd,0,none⟩=some (.int .i64 d0)/\v.cell? ⟨gd,1,none⟩=some (.int .i64 d1)/\v.cell? ⟨gd,2,none⟩=some (.int .i64 d2)/\v.cell? ⟨gd,3,none⟩=some (.int .i64 d3)/\v.cell? ⟨gd,4,none⟩=some (.int .i64 d4)/\v.cell? ⟨gd,5,none⟩=some (.bool d5)/\v.cell? ⟨w.heap.size,1,none⟩=some (.bool ng)) v:=fun v hv=>⟨(cD.below hv).cell 0 rfl,(cD.below hv).cell 1 rfl,(cD.below hv).cell 2 rfl,(cD.below hv).cell 3 rfl,(cD.below hv).cell 4 rfl,(cD.below hv).cell 5 rfl,(cP.below hv).cell 1 rfl⟩
 have KS:∀v (X:Nat),Below v4.heap.size v4 v->(fun v:World=>v.cell? ⟨gd,0,none⟩=some (.int .i64 d0)/\v.cell? ⟨gd,1,none⟩=some (.int .i64 d1)/\v.cell? ⟨gd,2,none⟩=some (.int .i64 d2)/\v.cell? ⟨gd,3,none⟩=some (.int .i64 d3)/\v.cell? ⟨gd,4,none⟩=some (.int .i64 d4)/\v.cell? ⟨gd,5,none⟩=some (.bool d5)/\v.cell? ⟨w.heap.size,1,none⟩=some (.bool ng)) ((v.setCell ⟨gw,0,none⟩ (.int .u64 (M.hiN X:Int))).setCell ⟨gw,1,none⟩ (.int .u64 (M.loN X:Int))):=fun v X hv=>by
  have cD9:=(((cD.below hv).far ⟨gw,0,none⟩ n3 (.int .u64 (M.hiN X:Int))).far ⟨gw,1,none⟩ n3 (.int .u64 (M.loN X:Int)));have cP9:=(((cP.below hv).far ⟨gw,0,none⟩ n1 (.int .u64 (M.hiN X:Int))).far ⟨gw,1,none⟩ n1 (.int .u64 (M.loN X:Int)));exact⟨cD9.cell 0 rfl,cD9.cell 1 rfl,cD9.cell 2 rfl,cD9.cell 3 rfl,cD9.cell 4 rfl,cD9.cell 5 rfl,cP9.cell 1 rfl⟩
 have RL:∀(Y:Nat)(v:World),Y<2^128->P Y->Below v4.heap.size v4 v->∃X:Nat,X<2^128/\Hid (P X)/\Cls ((v.setCell ⟨gw,0,none⟩ (.int .u64 (M.hiN Y:Int))).setCell ⟨gw,1,none⟩ (.int .u64 (M.loN Y:Int))) gw #[.int .u64 (M.hiN X:Int),.int .u64 (M.loN X:Int)] 27/\Cls ((v.setCell ⟨gw,0,none⟩ (.int .u64 (M.hiN Y:Int))).setCell ⟨gw,1,none⟩ (.int .u64 (M.loN Y:Int))) w.heap.size #[.int .i64 cl,.bool ng,.int .u64 (M.hiN s:Int),.int .u64 (M.loN s:Int),.int .i64 q] 67/\Cls ((v.setCell ⟨gw,0,none⟩ (.int .u64 (M.hiN Y:Int))).setCell ⟨gw,1,none⟩ (.int .u64 (M.loN Y:Int))) (w.heap.size+1) #[.int .u64 0,.int .u64 0] 27/\Below w.heap.size w ((v.setCell ⟨gw,0,none⟩ (.int .u64 (M.hiN Y:Int))).setCell ⟨gw,1,none⟩ (.int .u64 (M.loN Y:Int))):=fun Y v hY hP hv=>⟨Y,hY,hid hP,((cW.below hv).set 0 _ _ rfl).set 1 _ _ rfl,((cP.below hv).far ⟨gw,0,none⟩ n1 _).far ⟨gw,1,none⟩ n1 _,((cR.below hv).far ⟨gw,0,none⟩ n2 _).far ⟨gw,1,none⟩ n2 _,((b0.trans (hv.mono b0.size)).setCell (p:=⟨gw,0,none⟩) lw _).setCell (p:=⟨gw,1,none⟩) lw _⟩
 have A0:Below v4.heap.size v4 v4.drew:=(Below.refl _ _).drew;have p0:=cP.cell 0 rfl;have p1:=cP.cell 1 rfl;have p4:=cP.cell 4 rfl;obtain⟨i0,i1,i2,i3,i4,i5,-⟩:=KD _ (Below.refl _ _);go_upto_block 0 with fail
 go_cut[9] (fun z wx=>(∃z0,z=z0)/\∃X:Nat,X<2^128/\Hid (P X)/\Cls wx gw #[.int .u64 (M.hiN X:Int),.int .u64 (M.loN X:Int)] 27/\Cls wx w.heap.size #[.int .i64 cl,.bool ng,.int .u64 (M.hiN s:Int),.int .u64 (M.loN s:Int),.int .i64 q] 67/\Cls wx (w.heap.size+1) #[.int .u64 0,.int .u64 0] 27/\Below w.heap.size w wx)
 case first=>
  by_cases c1:cl=1
  . subst c1;go_wp2_with fail;refine(kM1 (by trivial) _).mono ?_;rintro e u9 ⟨X,hX,hP,rfl,B9⟩;have W2:=cW.below B9;have y0:=W2.cell 0 rfl;have y1:=W2.cell 1 rfl;have y2:=W2.frozen 0;have y3:=W2.frozen 1;go_wp2_with fail;go_meet
    case rel=>exact⟨⟨_,rfl⟩,RL _ _ hX hP B9⟩
  have e1:(cl==1)=false:=beq_eq_false_iff_ne.2 c1
  by_cases c4:cl=4
  . subst c4;go_upto_region 11 with fail
    go_region_held3 (fun v:World=>v.cell? ⟨gd,0,none⟩=some (.int .i64 d0)/\v.cell? ⟨gd,1,none⟩=some (.int .i64 d1)/\v.cell? ⟨gd,2,none⟩=some (.int .i64 d2)/\v.cell? ⟨gd,3,none⟩=some (.int .i64 d3)/\v.cell? ⟨gd,4,none⟩=some (.int .i64 d4)/\v.cell? ⟨gd,5,none⟩=some (.bool d5)/\v.cell? ⟨w.heap.size,1,none⟩=some (.bool ng)) (first|with_reducible exact KD _ A0|with_reducible exact KD _ B1|with_reducible exact KD _ B2|with_reducible exact KD _ B9|with_reducible exact KS _ _ B9)
     (first|(go_at_call 65;refine(kT _).mono ?_;rintro e u1 ⟨rfl,hb⟩;have B1:=aK (w1:=v4) A0 hb;clear hb)|(go_at_call 64;refine(kM4 (by trivial) _).mono ?_;rintro e u9 ⟨X,hX,hP,rfl,hb⟩;have B9:=aK (w1:=v4) B1 hb;clear hb;have W2:=cW.below B9;have y0:=W2.cell 0 rfl;have y1:=W2.cell 1 rfl;have y2:=W2.frozen 0;have y3:=W2.frozen 1))
    go_wp2_with fail;go_meet
    case rel=>exact⟨⟨_,rfl⟩,RL _ _ hX hP B9⟩
  have e4:(cl==4)=false:=beq_eq_false_iff_ne.2 c4
  by_cases c5:cl=5
  . subst c5;go_upto_region 13 with fail
    go_region_held3 (fun v:World=>v.cell? ⟨gd,0,none⟩=some (.int .i64 d0)/\v.cell? ⟨gd,1,none⟩=some (.int .i64 d1)/\v.cell? ⟨gd,2,none⟩=some (.int .i64 d2)/\v.cell? ⟨gd,3,none⟩=some (.int .i64 d3)/\v.cell? ⟨gd,4,none⟩=some (.int .i64 d4)/\v.cell? ⟨gd,5,none⟩=some (.bool d5)/\v.cell? ⟨w.heap.size,1,none⟩=some (.bool ng)) (first|with_reducible exact KD _ A0|with_reducible exact KD _ B1|with_reducible exact KD _ B2|with_reducible exact KD _ B9|with_reducible exact KS _ _ B9)
     (first
       |(go_at_call 65;refine(kT _).mono ?_;rintro e u1 ⟨rfl,hb⟩;have B1:=aK (w1:=v4) (by first|with_reducible exact A0|with_reducible exact B2) hb;(try replace rH:=rH.below hb);clear hb)
       |(go_at_call 43;refine(k2 _).mono ?_;rintro e u2 ⟨ha,hc,rfl,ho,hb⟩;have B2:=aK (w1:=v4) (by first|with_reducible exact A0|with_reducible exact B1) hb;have rH:=Rd.own ho;clear hb ho)
       |(go_at_call 64;refine(kM5 (by trivial) _ _ _ rH).mono ?_;rintro e u9 ⟨X,hX,hP,rfl,hb⟩;have B9:=aK (w1:=v4) (by first|with_reducible exact B1|with_reducible exact B2) hb;clear hb;have W2:=cW.below B9;have y0:=W2.cell 0 rfl;have y1:=W2.cell 1 rfl;have y2:=W2.frozen 0;have y3:=W2.frozen 1))
    all_goals go_wp2_with fail
    all_goals go_meet
    all_goals exact⟨⟨_,rfl⟩,RL _ _ hX hP B9⟩
  have e5:(cl==5)=false:=beq_eq_false_iff_ne.2 c5
  by_cases c2:cl=2
  . subst c2;go_upto_region 15 with fail;clear i0 i1 i2 i3 i4 i5 p0 p1 p4
    by_cases hb2:d0<=b
    . go_region_held3 (fun v:World=>v.cell? ⟨gd,0,none⟩=some (.int .i64 d0)/\v.cell? ⟨gd,1,none⟩=some (.int .i64 d1)/\v.cell? ⟨gd,2,none⟩=some (.int .i64 d2)/\v.cell? ⟨gd,3,none⟩=some (.int .i64 d3)/\v.cell? ⟨gd,4,none⟩=some (.int .i64 d4)/\v.cell? ⟨gd,5,none⟩=some (.bool d5)/\v.cell? ⟨w.heap.size,1,none⟩=some (.bool ng)) (first|with_reducible exact KD _ A0|with_reducible exact KD _ B1|with_reducible exact KD _ B2|with_reducible exact KD _ B9|with_reducible exact KS _ _ B9)
       (first|(go_at_call 56;refine(kB _ sa sc (rS.below A0)).mono ?_;rintro e u1 ⟨rfl,rfl⟩))
      have cR9:=cR.below A0;have HB:=hid (b0.trans (A0.mono b0.size));generalize v4.drew=vz at cR9 HB|-;have r0:=cR9.cell 0 rfl;have r1:=cR9.cell 1 rfl;have z0:=cR9.frozen 0;have z1:=cR9.frozen 1;go_wp2_with fail;exact bodyPost_ret (v:=.tuple #[.agg #[.int .u64 0,.int .u64 0],.bool false]) (by simp[results,Tryz.results25,go_sem,r0,r1]) rfl ⟨0,false,H2.out (by trivial) hb2,by rw[hi0,lo0];rfl,(HB.out.setCell (p:=⟨w.heap.size+1,0,none⟩) (Nat.le_succ _) _).setCell (p:=⟨w.heap.size+1,1,none⟩) (Nat.le_succ _) _⟩
    . go_region_held3 (fun v:World=>v.cell? ⟨gd,0,none⟩=some (.int .i64 d0)/\v.cell? ⟨gd,1,none⟩=some (.int .i64 d1)/\v.cell? ⟨gd,2,none⟩=some (.int .i64 d2)/\v.cell? ⟨gd,3,none⟩=some (.int .i64 d3)/\v.cell? ⟨gd,4,none⟩=some (.int .i64 d4)/\v.cell? ⟨gd,5,none⟩=some (.bool d5)/\v.cell? ⟨w.heap.size,1,none⟩=some (.bool ng)) (first|with_reducible exact KD _ A0|with_reducible exact KD _ B1|with_reducible exact KD _ B2|with_reducible exact KD _ B9|with_reducible exact KS _ _ B9)
       (first|(go_at_call 56;refine(kB _ sa sc (rS.below A0)).mono ?_;rintro e u1 ⟨rfl,rfl⟩))
      obtain⟨i0,i1,i2,i3,i4,i5,p1⟩:=KD _ A0;have kM:=kM2 (by trivial) (by omega) _ sa sc (rS.below A0);go_wp2_with fail;refine kM.mono ?_;rintro e u9 ⟨X,hX,hP,rfl,hb⟩;have B9:=aK (w1:=v4) A0 hb;clear hb kM;have W2:=cW.below B9;have y0:=W2.cell 0 rfl;have y1:=W2.cell 1 rfl;have y2:=W2.frozen 0;have y3:=W2.frozen 1;go_wp2_with fail;go_meet
      case rel=>exact⟨⟨_,rfl⟩,RL _ _ hX hP B9⟩
  have e2:(cl==2)=false:=beq_eq_false_iff_ne.2 c2
  by_cases c3:cl=3
  . subst c3;go_upto_region 20 with fail;clear p0 p1 p4
    by_cases hbd:b=d0
    . have hbd2:d0=b:=hbd.symm;subst hbd2;have g1:(d0 !=d0)=false:=by simp
      by_cases hE1:E<1
      . go_quiet((go_at_call 56;exact Calls.quiet_of_same (kB _ sa sc (Rd.drewN rS _))))
        have A9:Below v4.heap.size v4 (v4.drewN nq):=⟨rfl,rfl,rfl,Nat.le_refl _,fun _ _=>rfl⟩
        have cR9:=cR.below A9;have HB:=hid (b0.trans (A9.mono b0.size));generalize v4.drewN nq=vz at cR9 HB|-;have r0:=cR9.cell 0 rfl;have r1:=cR9.cell 1 rfl;have z0:=cR9.frozen 0;have z1:=cR9.frozen 1;go_wp2_with fail;exact bodyPost_ret (v:=.tuple #[.agg #[.int .u64 0,.int .u64 0],.bool false]) (by simp[results,Tryz.results25,go_sem,r0,r1]) rfl ⟨0,false,H3.out (by trivial) (Or.inr (Or.inl hE1)),by rw[hi0,lo0];rfl,(HB.out.setCell (p:=⟨w.heap.size+1,0,none⟩) (Nat.le_succ _) _).setCell (p:=⟨w.heap.size+1,1,none⟩) (Nat.le_succ _) _⟩
      . have g2:(E<1)=False:=eq_false hE1;have g3:decide (E<1)=false:=decide_eq_false hE1;clear i0 i1 i2 i3 i4 i5
        go_region_held3 (fun v:World=>v.cell? ⟨gd,0,none⟩=some (.int .i64 d0)/\v.cell? ⟨gd,1,none⟩=some (.int .i64 d1)/\v.cell? ⟨gd,2,none⟩=some (.int .i64 d2)/\v.cell? ⟨gd,3,none⟩=some (.int .i64 d3)/\v.cell? ⟨gd,4,none⟩=some (.int .i64 d4)/\v.cell? ⟨gd,5,none⟩=some (.bool d5)/\v.cell? ⟨w.heap.size,1,none⟩=some (.bool ng)) (first|with_reducible exact KD _ A0|with_reducible exact KD _ B1|with_reducible exact KD _ B2|with_reducible exact KD _ B9|with_reducible exact KS _ _ B9)
         (first
           |(go_at_call 56;refine(kB _ sa sc (rS.below A0)).mono ?_;rintro e u1 ⟨rfl,rfl⟩)
           |(go_at_call 65;refine(kT _).mono ?_;rintro e u2 ⟨rfl,hb⟩;have B1:=aK (w1:=v4) A0 hb;clear hb))
        by_cases hE2:tp<=E
        . have cR9:=cR.below B1;have HB:=hid (b0.trans (B1.mono b0.size));have r0:=cR9.cell 0 rfl;have r1:=cR9.cell 1 rfl;have z0:=cR9.frozen 0;have z1:=cR9.frozen 1;go_wp2_with fail;exact bodyPost_ret (v:=.tuple #[.agg #[.int .u64 0,.int .u64 0],.bool false]) (by simp[results,Tryz.results25,go_sem,r0,r1]) rfl ⟨0,false,H3.out (by trivial) (Or.inr (Or.inr hE2)),by rw[hi0,lo0];rfl,(HB.out.setCell (p:=⟨w.heap.size+1,0,none⟩) (Nat.le_succ _) _).setCell (p:=⟨w.heap.size+1,1,none⟩) (Nat.le_succ _) _⟩
        . have kM:=kM3 (by trivial) (by first|rfl|assumption) (by omega) (by omega);obtain⟨i0,i1,i2,i3,i4,i5,p1⟩:=KD _ B1;go_upto_region 22 with fail;have A1:Below v4.heap.size v4 u2.drew:=B1.trans ((Below.refl _ _).drew.mono B1.size)
          go_region_held3 (fun v:World=>v.cell? ⟨gd,0,none⟩=some (.int .i64 d0)/\v.cell? ⟨gd,1,none⟩=some (.int .i64 d1)/\v.cell? ⟨gd,2,none⟩=some (.int .i64 d2)/\v.cell? ⟨gd,3,none⟩=some (.int .i64 d3)/\v.cell? ⟨gd,4,none⟩=some (.int .i64 d4)/\v.cell? ⟨gd,5,none⟩=some (.bool d5)/\v.cell? ⟨w.heap.size,1,none⟩=some (.bool ng)) (first|with_reducible exact KD _ A1|with_reducible exact KD _ B2|with_reducible exact KD _ B9|with_reducible exact KS _ _ B9)
           (first
             |(go_at_call 66;refine(kL _ sa sc (rS.below A1)).mono ?_;rintro e u3 ⟨la,lc,rfl,ho,hb⟩;have B2:=aK (w1:=v4) A1 hb;have rL:=Rd.own ho;clear hb ho)
             |(go_at_call 64;refine(kM _ _ _ rL).mono ?_;rintro e u9 ⟨X,hX,hP,rfl,hb⟩;have B9:=aK (w1:=v4) B2 hb;clear hb;have W2:=cW.below B9;have y0:=W2.cell 0 rfl;have y1:=W2.cell 1 rfl;have y2:=W2.frozen 0;have y3:=W2.frozen 1))
          all_goals go_wp2_with fail
          all_goals go_meet
          all_goals exact⟨⟨_,rfl⟩,RL _ _ hX hP B9⟩
    . have g1:(b !=d0)=true:=by simp[hbd]
      go_quiet((go_at_call 56;exact Calls.quiet_of_same (kB _ sa sc (Rd.drewN rS _))))
      have A9:Below v4.heap.size v4 (v4.drewN nq):=⟨rfl,rfl,rfl,Nat.le_refl _,fun _ _=>rfl⟩
      have cR9:=cR.below A9;have HB:=hid (b0.trans (A9.mono b0.size));generalize v4.drewN nq=vz at cR9 HB|-;have r0:=cR9.cell 0 rfl;have r1:=cR9.cell 1 rfl;have z0:=cR9.frozen 0;have z1:=cR9.frozen 1;go_wp2_with fail;exact bodyPost_ret (v:=.tuple #[.agg #[.int .u64 0,.int .u64 0],.bool false]) (by simp[results,Tryz.results25,go_sem,r0,r1]) rfl ⟨0,false,H3.out (by trivial) (Or.inl hbd),by rw[hi0,lo0];rfl,(HB.out.setCell (p:=⟨w.heap.size+1,0,none⟩) (Nat.le_succ _) _).setCell (p:=⟨w.heap.size+1,1,none⟩) (Nat.le_succ _) _⟩
  have e3:(cl==3)=false:=beq_eq_false_iff_ne.2 c3;have HB:=hid b0;have r0:=cR.cell 0 rfl;have r1:=cR.cell 1 rfl;have z0:=cR.frozen 0;have z1:=cR.frozen 1;go_wp2_with fail;exact bodyPost_ret (v:=.tuple #[.agg #[.int .u64 0,.int .u64 0],.bool false]) (by simp[results,Tryz.results25,go_sem,r0,r1]) rfl ⟨0,false,H0.out c1 c2 c3 c4 c5,by rw[hi0,lo0];rfl,(HB.out.setCell (p:=⟨w.heap.size+1,0,none⟩) (Nat.le_succ _) _).setCell (p:=⟨w.heap.size+1,1,none⟩) (Nat.le_succ _) _⟩
 case rest=>
 rename World=>v5
 obtain⟨⟨z0,rfl⟩,X,hX,HP,cW5,cP5,cR5,b5⟩:=hcut;clear KD KS RL A0 p0 p1 p4 i0 i1 i2 i3 i4 i5 cW cP cR cD b0 rS
 have KE:∀v,Below v5.heap.size v5 v->(fun v:World=>v.cell? ⟨gw,0,none⟩=some (.int .u64 (M.hiN X:Int))/\v.cell? ⟨gw,1,none⟩=some (.int .u64 (M.loN X:Int))/\v.cell? ⟨w.heap.size,0,none⟩=some (.int .i64 cl)/\v.cell? ⟨w.heap.size,1,none⟩=some (.bool ng)/\v.cell? ⟨w.heap.size,2,none⟩=some (.int .u64 (M.hiN s:Int))/\v.cell? ⟨w.heap.size,3,none⟩=some (.int .u64 (M.loN s:Int))/\v.cell? ⟨w.heap.size,4,none⟩=some (.int .i64 q)) v:=fun v hv=>⟨(cW5.below hv).cell 0 rfl,(cW5.below hv).cell 1 rfl,(cP5.below hv).cell 0 rfl,(cP5.below hv).cell 1 rfl,(cP5.below hv).cell 2 rfl,(cP5.below hv).cell 3 rfl,(cP5.below hv).cell 4 rfl⟩
 have A0:Below v5.heap.size v5 v5.drew:=(Below.refl _ _).drew;go_upto_region 23 with fail
 go_cut[101] (fun z wx=>(∃bq:Bool,z=.bool bq/\Hid ((bq=false->R X true)/\(bq=true->R 0 false)))/\Below v5.heap.size v5 wx)
 case first=>
  obtain⟨tc,tn,th,tl,tq,ky,kn,kV⟩:=HU.out X hX HP.out;have KY:=hid ky;have KN:=hid kn;clear ky kn
  have hcs:¬tc=cl\/tc=cl/\¬tn=ng\/tc=cl/\tn=ng/\¬th=(M.hiN s:Int)\/tc=cl/\tn=ng/\th=(M.hiN s:Int)/\¬tl=(M.loN s:Int)\/tc=cl/\tn=ng/\th=(M.hiN s:Int)/\tl=(M.loN s:Int)/\¬tq=q\/tc=cl/\tn=ng/\th=(M.hiN s:Int)/\tl=(M.loN s:Int)/\tq=q:=by
   by_cases h1:tc=cl<;>by_cases h2:tn=ng<;>by_cases h3:th=(M.hiN s:Int)<;>by_cases h4:tl=(M.loN s:Int)<;>by_cases h5:tq=q<;>simp[h1,h2,h3,h4,h5]
  rcases hcs with h1|⟨h1,h2⟩|⟨h1,h2,h3⟩|⟨h1,h2,h3,h4⟩|⟨h1,h2,h3,h4,h5⟩|⟨h1,h2,h3,h4,h5⟩
  all_goals go_region_held3 (fun v:World=>v.cell? ⟨gw,0,none⟩=some (.int .u64 (M.hiN X:Int))/\v.cell? ⟨gw,1,none⟩=some (.int .u64 (M.loN X:Int))/\v.cell? ⟨w.heap.size,0,none⟩=some (.int .i64 cl)/\v.cell? ⟨w.heap.size,1,none⟩=some (.bool ng)/\v.cell? ⟨w.heap.size,2,none⟩=some (.int .u64 (M.hiN s:Int))/\v.cell? ⟨w.heap.size,3,none⟩=some (.int .u64 (M.loN s:Int))/\v.cell? ⟨w.heap.size,4,none⟩=some (.int .i64 q)) (first|with_reducible exact KE _ A0|with_reducible exact KE _ B1)
   (first|(go_at_call 67;refine(kV _).mono ?_;rintro e u1 ⟨rfl,hb⟩;have B1:=aK (w1:=v5) A0 hb;clear hb))
  all_goals go_wp2_with fail
  all_goals go_meet
  all_goals refine⟨⟨_,rfl,hid ⟨fun hq=>?_,fun hq=>?_⟩⟩,B1⟩
  all_goals first|exact KY.out ⟨h1,h2,h3,h4,h5⟩|exact KN.out (fun hh=>absurd hh.1 h1)|exact KN.out (fun hh=>absurd hh.2.1 h2)|exact KN.out (fun hh=>absurd hh.2.2.1 h3)|exact KN.out (fun hh=>absurd hh.2.2.2.1 h4)|exact KN.out (fun hh=>absurd hh.2.2.2.2 h5)|(exfalso;revert hq;simp_all)
 case rest=>
 rename World=>v6
 obtain⟨⟨bq,rfl,HQ⟩,hb⟩:=hcut;replace cR5:=cR5.below hb;replace cW5:=cW5.below hb;replace b5:=b5.trans (hb.mono b5.size);clear hb KE A0 cP5;cases bq
 . have r0:=cR5.cell 0 rfl;have r1:=cR5.cell 1 rfl;have z0:=cR5.frozen 0;have z1:=cR5.frozen 1;have x0:=cW5.cell 0 rfl;have x1:=cW5.cell 1 rfl;have HB:=hid b5;go_wp2_with fail;exact bodyPost_ret (v:=.tuple #[.agg #[.int .u64 (M.hiN X:Int),.int .u64 (M.loN X:Int)],.bool true]) (by simp[results,Tryz.results25,go_sem,r0,r1]) rfl ⟨X,true,HQ.out.1 (by trivial),rfl,(HB.out.setCell (p:=⟨w.heap.size+1,0,none⟩) (Nat.le_succ _) _).setCell (p:=⟨w.heap.size+1,1,none⟩) (Nat.le_succ _) _⟩
 . skip;have HB:=hid b5;have r0:=cR5.cell 0 rfl;have r1:=cR5.cell 1 rfl;have z0:=cR5.frozen 0;have z1:=cR5.frozen 1;go_wp2_with fail;exact bodyPost_ret (v:=.tuple #[.agg #[.int .u64 0,.int .u64 0],.bool false]) (by simp[results,Tryz.results25,go_sem,r0,r1]) rfl ⟨0,false,HQ.out.2 (by trivial),by rw[hi0,lo0];rfl,(HB.out.setCell (p:=⟨w.heap.size+1,0,none⟩) (Nat.le_succ _) _).setCell (p:=⟨w.heap.size+1,1,none⟩) (Nat.le_succ _) _⟩

theorem PA {F:M.Fm}(h:F.Ok)(t:M.Pt)(X:Nat)(hc:t.c≠0)(hX:F.Proper t->F.pk t=X):
 (F.upk X=t->(if F.Proper t then F.pk t else 0)=X/\decide (F.Proper t)=true)/\(¬F.upk X=t->(if F.Proper t then F.pk t else 0)=0/\decide (F.Proper t)=false):=by
 constructor
 . intro e
   have hp:F.Proper t:=by
    rcases h.upk_proper X with hb|hb
    . rw[e]at hb;rw[hb]at hc;simp at hc
    . rw[e]at hb;exact hb
   exact⟨by rw[if_pos hp];exact hX hp,decide_eq_true hp⟩
 . intro e
   have hp:¬F.Proper t:=fun hp=>e (by rw[<-hX hp];exact(h.upk_pk t hp).1)
   exact⟨if_neg hp,decide_eq_false hp⟩

theorem NP {a:M.Pt}{c:Int}{n:Bool}{s:Nat}{q:Int}:(a.c=c/\a.n=n/\(M.hiN a.s:Int)=(M.hiN s:Int)/\(M.loN a.s:Int)=(M.loN s:Int)/\a.q=q)↔a=⟨c,n,s,q⟩:=by
 constructor
 . rintro⟨h1,h2,h3,h4,h5⟩;refine M.Pt.ext' h1 h2 ?_ h5;have e1:=M.hl a.s;have e2:=M.hl s;simp only;omega
 . rintro rfl;exact⟨rfl,rfl,rfl,rfl,rfl⟩

def wY (F:M.Fm)(t:M.Pt):Nat:=if F.Proper t then F.pk t else 0

theorem AM {F:M.Fm}{c:Int}{n:Bool}{s:Nat}{q:Int}(h1:c≠1)(h2:c≠2)(h3:c≠3)(h4:c≠4)(h5:c≠5):¬F.Proper ⟨c,n,s,q⟩:=by
 unfold M.Fm.Proper;simp only;omega

theorem yV {F:M.Fm}(h:F.Ok)(s:Nat):(F.lead<=s↔F.p<=aB s)/\(s<2*F.lead↔aB s<=F.p):=by
 have p1:=h.p1
 have e:2*F.lead=2^F.p:=by
  unfold M.Fm.lead;rw[Nat.mul_comm,<-Nat.pow_succ];congr 1;omega
 rw[e];have a:=dD s
 refine⟨⟨fun hh=>?_,fun hh=>?_⟩,⟨fun hh=>bX s _ hh,fun hh=>Nat.lt_of_lt_of_le a (Nat.pow_le_pow_right (by omega) hh)⟩⟩
 . refine Classical.byContradiction fun hn=>?_
   have:2^aB s<=2^(F.p-1):=Nat.pow_le_pow_right (by omega) (by omega);unfold M.Fm.lead at hh;omega
 . have hp:0<s:=by
    rcases Nat.eq_zero_or_pos s with rfl|hs
    . rw[fJ]at hh;omega
    . exact hs
   have b:=eF s hp;have:2^(F.p-1)<=2^(aB s-1):=Nat.pow_le_pow_right (by omega) (by omega);unfold M.Fm.lead;omega

theorem DB:D 0=[]:=by rw[<-List.length_eq_zero_iff];have:=M.len_of_lt (B:=4294967296) (by omega) 0 0 (by simp);exact Nat.le_zero.1 this

theorem oC (P:Nat->Prop)(F:M.Fm)(h:F.Ok)(n ld:Bool)(ex sg R:Nat)(h2:ex<=F.top)(h3:sg<2*F.lead)(h4:F.lead<=sg↔0<ex)(hld:ld=decide (0<ex))(hR:R=if 0<ex then sg-F.lead else sg)(hP:P (F.word n ex sg))(ao:Option Addr)(c:Nat)(w:World)(hr:Rd w ao (D R)):
 Calls Tryz.prog 64 #[.agg #[.int .i64 (F.p:Int),.int .i64 (1-(F.emax:Int)),.int .i64 (F.emax:Int),.int .i64 (F.wd:Int),.int .i64 (F.e:Int),.bool F.x],.bool n,.int .i64 (ex:Int),.bool ld,.slice ao (D R).length c] w fun e w'=>Wo P w w' e:=by
 refine(GJ F h n ld ex sg R h2 h3 h4 hld hR ao c w hr).mono ?_;rintro e w' ⟨rfl,hb⟩;exact⟨_,Nat.lt_of_lt_of_le (h.fields n ex sg h2 h3 h4).2.2.2 h.width.2.2,hP,rfl,hb⟩

theorem mC (f:Nat)(hf:f<4)(c:Int)(n:Bool)(s:Nat)(hs:s<2^128)(q:Int)(hq1:-9223372036854775808<=q)(hq2:q<9223372036854775808)(w:World):
 Calls Tryz.prog 25 #[.int .i64 (f:Int),.agg #[.int .i64 c,.bool n,.int .u64 (M.hiN s:Int),.int .u64 (M.loN s:Int),.int .i64 q]] w fun e w'=>e=.returned (.tuple #[.agg #[.int .u64 (M.hiN (wY (M.fm f) ⟨c,n,s,q⟩):Int),.int .u64 (M.loN (wY (M.fm f) ⟨c,n,s,q⟩):Int)],.bool (decide ((M.fm f).Proper ⟨c,n,s,q⟩))])/\Below w.heap.size w w':=by
 have kE:=fun v:World=>bK f hf v
 have kU:=fun(X:Nat)(hX:X<2^128)(v:World)=>iO f hf X hX v
 have h:=M.iM f
 have kT:=fun v:World=>JN (M.fm f) h v
 generalize M.fm f=F at*;simp only[dv,pv]at kE kU;have p1:=h.p1;have p2:=h.p2;have lp:=h.leadPos;have ht:=h.top2;obtain⟨b1,b2⟩:=yV h s;have hl:F.lead=2^(F.p-1):=rfl;obtain⟨E,hE⟩:∃E,wrap64 (wrap64 (wrap64 (q+(F.emax:Int))+(F.p:Int))-1)=E:=⟨_,rfl⟩;have hE':=hE;simp only[wrap64]at hE'
 have rN:¬F.Proper ⟨c,n,s,q⟩->(0=wY F ⟨c,n,s,q⟩/\false=decide (F.Proper ⟨c,n,s,q⟩)):=fun hn=>⟨(if_neg hn).symm,(decide_eq_false hn).symm⟩
 refine(QI (f:Int) c n s q hs _ _ _ _ _ _ (by omega) (F.top:Int) (aB s:Int) E (2^(F.p-2)) (s%2^(F.p-1)) w (fun X=>c≠0/\(F.Proper ⟨c,n,s,q⟩->F.pk ⟨c,n,s,q⟩=X)) (fun Y ok=>Y=wY F ⟨c,n,s,q⟩/\ok=decide (F.Proper ⟨c,n,s,q⟩))
  (fun c1 c2 c3 c4 c5=>rN (AM c1 c2 c3 c4 c5))
  (fun e hb=>rN (by
    subst e;have:=b1.2 (by omega)
    unfold M.Fm.Proper;simp only;omega))
  (fun e hb=>rN (by
    subst e;clear kE kU kT rN
    unfold M.Fm.Proper;simp only;omega))
  hE (by rw[IntKind.wrap_i64];omega) (by rw[IntKind.wrap_i64];omega) kE kT
  (fun v ao cc hr=>aW ao _ cc s v rfl (by have:=jV hs;omega) hr _ rfl)
  (fun v=>by have:=jG (F.p-2) v (by omega);rwa[show((F.p-2:Nat):Int)=(F.p:Int)-2 by omega]at this)
  (fun v ao cc hr=>by have:=mB ao _ cc (F.p-1) s v rfl (by have:=jV hs;omega) (by omega) hr;rwa[show((F.p-1:Nat):Int)=(F.p:Int)-1 by omega]at this)
  (fun e v=>by
    have:=oC (fun X=>c≠0/\(F.Proper ⟨c,n,s,q⟩->F.pk ⟨c,n,s,q⟩=X)) F h n false 0 0 0 (by omega) (by omega) (by omega) rfl rfl ⟨by omega,fun _=>by subst e;simp[M.Fm.pk]⟩ none 0 v (by rw[DB];exact Rd.nil _ _)
    rw[DB]at this
    exact this)
  (fun e v=>by
    have:=oC (fun X=>c≠0/\(F.Proper ⟨c,n,s,q⟩->F.pk ⟨c,n,s,q⟩=X)) F h n true F.top F.lead 0 (Nat.le_refl _) (by omega) (by omega) (by simp;omega) (by rw[if_pos (by omega)];omega) ⟨by omega,fun _=>by subst e;simp[M.Fm.pk]⟩ none 0 v (by rw[DB];exact Rd.nil _ _)
    rw[DB]at this
    exact this)
  (fun e v ao cc hr=>by
    have e1:2^(F.p-2)<F.lead:=by rw[hl];exact Nat.pow_lt_pow_right (by omega) (by omega)
    have e2:F.pk ⟨c,n,s,q⟩=F.word false F.top (F.lead+2^(F.p-2)):=by subst e;simp[M.Fm.pk]
    clear hl b1 b2;generalize 2^(F.p-2)=xx at*
    exact oC _ F h false true F.top (F.lead+xx) xx (Nat.le_refl _) (by omega) (by omega) (by simp;omega) (by rw[if_pos (by omega)];omega) ⟨by omega,fun _=>e2⟩ ao cc v hr)
  (fun e hb v ao cc hr=>oC _ F h n false 0 s s (by omega) (by have:=b1.1;omega) (by omega) rfl rfl ⟨by omega,fun _=>by subst e;simp[M.Fm.pk]⟩ ao cc v hr)
  (fun e hb hE1 hE2 v ao cc hr=>by
    have c1:F.lead<=s:=b1.2 (by omega);have c2:s<2*F.lead:=b2.2 (by omega);have e1:s%2^(F.p-1)=s-F.lead:=by rw[<-hl,Nat.mod_eq_sub_mod c1];exact Nat.mod_eq_of_lt (by omega)
    obtain⟨x,rfl⟩:∃x:Nat,E=(x:Int):=⟨E.toNat,by omega⟩
    refine oC _ F h n true x s _ (by omega) c2 (by omega) (by simp;omega) (by rw[if_pos (by omega)];exact e1) ⟨by omega,fun hp=>?_⟩ ao cc v hr
    subst e;unfold M.Fm.Proper at hp;simp only at hp
    simp[M.Fm.pk,show(q+(F.emax:Int)+(F.p:Int)-1).toNat=x by omega])
  (fun X hX hP=>by
    have an:=PA h ⟨c,n,s,q⟩ X hP.1 hP.2
    exact⟨_,_,_,_,_,fun e=>by have:=an.1 (NP.1 e);exact⟨this.1.symm,this.2.symm⟩,fun e=>by have:=an.2 (fun e'=>e (NP.2 e'));exact⟨this.1.symm,this.2.symm⟩,fun v=>kU X hX v⟩)).mono ?_
 rintro e w' ⟨Y,ok,⟨rfl,rfl⟩,rfl,hb⟩;exact⟨rfl,hb⟩

theorem uM (N K:Nat)(h:(D N).length<=K):aB N<=32*K:=by
 refine bX N _ ?_;have:=mZ N K h
 rwa[show(4294967296:Nat)=2^32 by rfl,<-Nat.pow_mul]at this

theorem AA {a b:Nat}(h:a<=b):(D a).length<=(D b).length:=by
 rcases Nat.lt_or_ge (D b).length (D a).length with hh|hh
 . have:=M.dF (B:=4294967296) (by omega) hh;omega
 . exact hh

theorem nH (f:Nat)(hf:f<4)(ng:Bool)(a b:Option Addr)(c d N De:Nat)(w:World)(hN:0<N)(hd:0<De)(lN:(D N).length<=2400)(lD:(D De).length<=2400)(hcn:(D N).length<=c)(ra:Rd w a (D N))(rb:Rd w b (D De)):
 Calls Tryz.prog 24 #[.int .i64 (f:Int),.bool ng,.slice a (D N).length c,.slice b (D De).length d] w fun e w'=>e=.returned (.agg #[.int .u64 (M.hiN ((M.fm f).pk ((M.fm f).rPt ng N De)):Int),.int .u64 (M.loN ((M.fm f).pk ((M.fm f).rPt ng N De)):Int),.int .i64 ((M.fm f).rFl N De 2 1),.bool true])/\Below w.heap.size w w':=by
 have kE:=fun v:World=>bK f hf v
 have kK:=fun(v:World)(c:Int)(s:Nat)(hs:s<2^128)(q:Int)(h1:-9223372036854775808<=q)(h2:q<9223372036854775808)=>mC f hf c ng s hs q h1 h2 v
 have h:=M.iM f;generalize M.fm f=F at*;simp only[dv]at kE;have p1:=h.p1;have p2:=h.p2;have t2:=h.top2;have bN:=uM N _ lN;have bD:=uM De _ lD;have e1:=M.ID N De (by omega) (by omega);obtain⟨q1,q2,q3,q4,q5⟩:=h.rQ_le N De (by omega) (by omega);obtain⟨m1,m2,m3⟩:=h.rS_ok N De hN hd;have m4:=h.rS_le N De hN hd;have m5:=h.rSig_lt N De hN hd;obtain⟨n1,n2⟩:=h.rN_le N De hN hd (by omega) (by omega);have tl:=h.two_lead;have pw:2^F.p<=2^113:=Nat.pow_le_pow_right (by omega) p2;have pp:=h.rPt_proper ng N De hN hd;have lo:=h.rLow N De hN hd;obtain⟨g1,g2⟩:=h.rCarry N De hN hd
 have l1:(D (F.rN N De)).length<=2404:=by
  rcases n1 with n1|n1
  . rw[n1];omega
  . have:=qS De F.p 2400 lD;have:=AA (Nat.le_of_lt n1);omega
 have l2:(D (F.rM N De)).length<=2404:=by
  rcases n2 with n2|n2
  . rw[n2];omega
  . have:=AA n2;omega
 have hlt:F.rN N De/F.rM N De<2^128:=by omega
 have hrm:F.rN N De%F.rM N De<F.rM N De:=Nat.mod_lt _ m1;have l3:(D (F.rN N De%F.rM N De)).length<=2404:=Nat.le_trans (AA (Nat.le_of_lt hrm)) l2
 have l4:(D (F.rN N De%F.rM N De*2)).length<=2405:=by
  have:=qS (F.rN N De%F.rM N De) 1 2404 l3;rw[Nat.pow_one]at this;omega
 have l5:(D (F.rN N De/F.rM N De)).length<=6:=dG _ (by omega);have l6:(D (F.rS N De)).length<=6:=dG _ (by omega);have l7:(D (F.rSig N De)).length<=6:=dG _ (by omega);have hqm:F.qmin=2-(F.emax:Int)-(F.p:Int):=rfl;have hQd:F.rQ N De=max (M.rE N De-F.p+1) F.qmin:=rfl
 have kSh:=fun(v:World)(ao:Option Addr)(cc:Nat)(hr:Rd v ao (D (F.rN N De%F.rM N De)))=>aN ao _ cc 1 (F.rN N De%F.rM N De) v rfl (by omega) (by omega) hr
 rw[Nat.pow_one]at kSh
 have kH:=fun(v:World)(ao:Option Addr)(cc:Nat)(hr:Rd v ao (D (F.rS N De)))=>gI ao _ cc 1 (F.rS N De) v rfl (by omega) (by omega) hr
 rw[Nat.pow_one]at kH
 have hs:(F.rPt ng N De).s<2^128:=by
  unfold M.Fm.rPt;split
  . simp only;omega
  . split
    . simp only;omega
    . split<;>simp only<;>omega
 have hx:-100000<=F.rExp N De/\F.rExp N De<=200000:=by rw[g2];split<;>omega
 have hq:-9223372036854775808<=(F.rPt ng N De).q/\(F.rPt ng N De).q<9223372036854775808:=by
  unfold M.Fm.rPt;split
  . simp only;omega
  . split
    . simp only;omega
    . split<;>simp only<;>omega
 have kP:=fun v:World=>kK v (F.rPt ng N De).c (F.rPt ng N De).s hs (F.rPt ng N De).q hq.1 hq.2
 have ht:(⟨(F.rPt ng N De).c,ng,(F.rPt ng N De).s,(F.rPt ng N De).q⟩:M.Pt)=F.rPt ng N De:=by
  have:(F.rPt ng N De).n=ng:=by
   unfold M.Fm.rPt;split
   . rfl
   . split
     . rfl
     . split<;>rfl
  refine M.Pt.ext' rfl this.symm rfl rfl
 rw[ht,show wY F (F.rPt ng N De)=F.pk (F.rPt ng N De)from if_pos pp]at kP;have bl:=yV h (F.rSig N De)
 refine BR (f:Int) ng N De _ _ _ _ _ _ w a b c d hcn ra rb kE (aB N) (aB De) (fun v ao cc hr=>aW ao _ cc N v rfl (by omega) hr _ rfl) (fun v ao cc hr=>aW ao _ cc De v rfl (by omega) hr _ rfl)
  (decide (M.lt2 N De ((aB N:Int)-aB De))) (fun v ao bo c d hr hr2=>zE ao bo _ _ c d N De _ v rfl rfl (by omega) (by omega) (by omega) (by omega) hr hr2 _ rfl)
  (M.rE N De) (F.rQ N De) F.qmin (by unfold M.rE;simp only[decide_eq_true_eq]) (by omega) (by rw[hQd];split<;>omega) (by omega) (by omega) (by omega) (by omega) (by omega) (by omega) (by omega) (by omega)
  (F.rN N De) (F.rM N De) ?_ ?_ (F.rN N De/F.rM N De) (F.rN N De%F.rM N De) (fun v ao bo c d hc hr hr2=>rK ao bo _ _ c d _ _ v rfl rfl m1 (by omega) (by omega) hc hr hr2) kSh
  (aY ((F.rN N De%F.rM N De*2:Nat):Int) (F.rM N De:Int)) (fun v ao bo c d hr hr2=>dM ao bo _ _ c d _ _ v rfl rfl (by omega) (by omega) hr hr2)
  (fun v ao cc hr=>cO ao _ cc 0 _ v rfl (by omega) (by omega) hr _ (by rw[yF];simp)) (fun v=>aU 1 v (by omega)) (fun v ao bo c d hr hr2=>cJ ao bo _ _ c d _ _ v rfl rfl (by omega) (Nat.le_trans (dG 1 (by omega)) (by omega)) hr hr2)
  (F.rS N De) (M.C9 _ _) (aB (F.rS N De)) (fun v ao cc hr=>aW ao _ cc _ v rfl (by omega) hr _ rfl) kH (F.rSig N De) (F.rExp N De) g1 g2 (by omega) (by omega) (by omega) (by omega)
  (aB (F.rSig N De)) (fun v ao cc hr=>aW ao _ cc _ v rfl (by omega) hr _ rfl) (fun v ao cc hr=>fC ao _ cc _ v rfl (by omega) hr)
  (F.rPt ng N De).c (F.rPt ng N De).s (F.rPt ng N De).q (F.rFl N De 2 1) ?_ (F.pk (F.rPt ng N De)) _ kP
 . intro hc;refine⟨?_,?_⟩
   . show N*2^(-(F.rQ N De)).toNat=N
     rw[show(-(F.rQ N De)).toNat=0 by omega,Nat.pow_zero,Nat.mul_one]
   . intro v ao cc hr;have:=aN ao _ cc (F.rQ N De).toNat De v rfl (by omega) (by omega) hr;rw[show(((F.rQ N De).toNat:Nat):Int)=F.rQ N De by omega]at this;exact this
 . intro hc;refine⟨?_,?_⟩
   . show De*2^(F.rQ N De).toNat=De
     rw[show(F.rQ N De).toNat=0 by omega,Nat.pow_zero,Nat.mul_one]
   . intro v ao cc hr;have:=aN ao _ cc (-(F.rQ N De)).toNat N v rfl (by omega) (by omega) hr;rw[show(((-(F.rQ N De)).toNat:Nat):Int)= -(F.rQ N De) by omega]at this;exact this
 . unfold M.Fm.rPt M.Fm.rFl
   by_cases k1:F.rSig N De=0
   . rw[if_pos k1,if_pos k1];exact .inl ⟨k1,rfl,rfl,rfl,rfl⟩
   . rw[if_neg k1,if_neg k1]
     by_cases k2:F.rSig N De<F.lead
     . rw[if_pos k2,if_pos k2];refine .inr (.inl ⟨k1,?_,rfl,rfl,(lo k2).1,rfl⟩);rcases Nat.lt_or_ge (aB (F.rSig N De)) F.p with hh|hh
       . omega
       . have:=bl.1.2 hh;omega
     . rw[if_neg k2,if_neg k2];have hb:¬((aB (F.rSig N De):Int)<(F.p:Int)):=by have:=bl.1.1 (by omega);omega
       by_cases k3:(F.emax:Int)<F.rExp N De+F.p-1
       . rw[if_pos k3,if_pos k3];exact .inr (.inr (.inl ⟨k1,hb,k3,rfl,rfl,rfl,rfl⟩))
       . rw[if_neg k3,if_neg k3];exact .inr (.inr (.inr ⟨k1,hb,k3,rfl,rfl,rfl,rfl⟩))

theorem wO (a j K:Nat)(h:a<2^j)(hj:j<=32*K):(D a).length<=K:=by
 refine M.len_of_lt (B:=4294967296) (by omega) _ _ ?_;rw[show(4294967296:Nat)=2^32 by rfl,<-Nat.pow_mul];exact Nat.lt_of_lt_of_le h (Nat.pow_le_pow_right (by omega) hj)

theorem MP {t:List Nat}{d:M.Dec}(h:M.Sound t d)(hl:d.digits.length<=800):(D (M.dec d.digits)).length<=2400/\(D (peN d)).length<=2400/\(D (peD d)).length<=2400:=by
 have hd:=M.iU _ h.dig;have e1:(M.aO d.exp d.digits.length).toNat<=5200:=by unfold M.aO;omega
 have e2:(-(M.aO d.exp d.digits.length)).toNat<=6000:=by unfold M.aO;omega
 have t1:=mS d.digits.length;have t3:=mS (-(M.aO d.exp d.digits.length)).toNat;refine⟨wO _ (4*d.digits.length) _ (Nat.lt_of_lt_of_le hd t1) (by omega),wO _ (4*(d.digits.length+(M.aO d.exp d.digits.length).toNat)) _ ?_ (by omega),wO _ (4*(-(M.aO d.exp d.digits.length)).toNat+1) _ ?_ (by omega)⟩
 . unfold peN;have q:M.dec d.digits*10^(M.aO d.exp d.digits.length).toNat<10^d.digits.length*10^(M.aO d.exp d.digits.length).toNat:=Nat.mul_lt_mul_of_pos_right hd (Nat.pow_pos (by omega));rw[<-Nat.pow_add]at q;exact Nat.lt_of_lt_of_le q (mS _)
 . unfold peD;exact Nat.lt_of_le_of_lt t3 (Nat.pow_lt_pow_right (by omega) (by omega))

theorem oQ (k:Nat)(hk:k<4)(cl:Int)(ng:Bool)(hp:(M.fm k).Proper ⟨cl,ng,0,0⟩)(v:World):
 Calls Tryz.prog 25 #[.int .i64 (k:Int),.agg #[.int .i64 cl,.bool ng,.int .u64 0,.int .u64 0,.int .i64 0]] v fun e w'=>e=.returned (.tuple #[.agg #[.int .u64 (M.hiN ((M.fm k).pk ⟨cl,ng,0,0⟩):Int),.int .u64 (M.loN ((M.fm k).pk ⟨cl,ng,0,0⟩):Int)],.bool true])/\Below v.heap.size v w':=by
 have q:=mC k hk cl ng 0 (by omega) 0 (by omega) (by omega) v;rw[decide_eq_true hp,show wY (M.fm k) ⟨cl,ng,0,0⟩=(M.fm k).pk ⟨cl,ng,0,0⟩from if_pos hp]at q;simp only[hi0,lo0]at q;exact q

theorem BV (k:Nat)(hk:k<4)(ao:Option Addr)(n c:Nat)(bs:List Nat)(w:World)(hl:bs.length=n)(hcap:n<=c)(hno:ao=none->c=0)(hr:RdB w ao bs):
 Calls Tryz.prog 7 #[.int .i64 (k:Int),.slice ao n c] w fun e w'=>e=.returned (peV (M.fm k) (aC bs))/\Below w.heap.size w w':=by
 have h:=M.iM k;have p1:=h.p1;have hp0:(M.fm k).p≠0:=by omega
 have kE:=fun(v:World)=>bK k hk v
 have kS:∀v:World,Below w.heap.size w v->Calls Tryz.prog 8 #[.slice ao n c] v fun e w'=>∃a cc,e=.returned (.agg #[.int .i64 (aC bs).1.kind,.bool (aC bs).1.neg,.slice a (aC bs).1.digits.length cc,.int .i64 (aC bs).1.exp,.int .i64 (aC bs).2.1,.int .i64 (aC bs).2.2])/\((∀x∈(aC bs).1.digits,x<256)->RdB w' a (aC bs).1.digits)/\Below v.heap.size v w':=fun v hv=>by
  refine(jD ao n c bs v hl hcap hno (hr.below hv) _ rfl).mono ?_;rintro e w' ⟨ra,rc,rfl,ho,hb⟩
  exact⟨ra,rc,rfl,fun hx=>(OwnV.of_own ho hx).rd,hb⟩
 rcases nO bs with⟨h1,h2⟩|⟨d,h1,h2,h3⟩
 . unfold peV;rw[if_pos h1];generalize aC bs=o at*;obtain⟨d,cd,off⟩:=o;simp only at h1 h2 kS;subst h2
   exact tD (k:Int) ao n c w (M.fm k) hp0 kE 0 false 0 0 cd off (by omega) (by omega) (by omega) (fun v a _=>(∀x∈([]:List Nat),x<256)->RdB v a []) (fun _ _ _ _ h hb=>fun q=>(h q).below hb) kS h1
 . have hs:=M.dY h2;have hkd:=M.fY h2;have ex1:=hs.exp1;have ex2:=hs.exp2
   have hl8:d.digits.length<=800:=by
    rcases hkd with x|x|x
    . omega
    . rw[x.2];simp
    . rw[x.2.2];simp
   unfold peV;rw[h1]at kS|-;simp only at kS;simp only[ne_eq,not_true_eq_false,if_false];unfold peY peF
   have okB:∀(v v':World)(a:Option Addr)(k:Nat),((fun(v:World)(a:Option Addr)(_:Nat)=>(∀x∈d.digits,x<256)->RdB v a d.digits) v a k)->Below v.heap.size v v'->((fun(v:World)(a:Option Addr)(_:Nat)=>(∀x∈d.digits,x<256)->RdB v a d.digits) v' a k):=fun _ _ _ _ h hb=>fun q=>(h q).below hb
   by_cases hk2:d.kind=2
   . rw[if_pos hk2,if_pos hk2];have hp:(M.fm k).Proper ⟨4,d.neg,0,0⟩:=by unfold M.Fm.Proper;simp
     exact fI (k:Int) ao n c w (M.fm k) hp0 kE d.kind d.neg d.digits.length d.exp 0 0 (by omega) (by omega) (by omega) _ okB kS rfl _ _ (.inl ⟨hk2,rfl,rfl⟩) _ _ true (fun v=>oQ k hk 4 d.neg hp v)
   rw[if_neg hk2,if_neg hk2]
   by_cases hk3:d.kind=3
   . rw[if_pos hk3,if_pos hk3]
     have hng:d.neg=false:=by
      rcases hkd with x|x|x
      . omega
      . omega
      . exact x.2.1
     have hp:(M.fm k).Proper ⟨5,false,0,0⟩:=by unfold M.Fm.Proper;simp
     have kP:=fun v=>oQ k hk 5 false hp v
     rw[<-hng]at kP;have:=fI (k:Int) ao n c w (M.fm k) hp0 kE d.kind d.neg d.digits.length d.exp 0 0 (by omega) (by omega) (by omega) _ okB kS rfl _ _ (.inr (.inl ⟨hk3,rfl,rfl⟩)) _ _ true kP;rw[hng]at this;exact this
   rw[if_neg hk3,if_neg hk3]
   by_cases hd0:d.digits.length=0
   . rw[if_pos hd0,if_pos hd0];have hp:(M.fm k).Proper ⟨1,d.neg,0,0⟩:=by unfold M.Fm.Proper;simp
     exact fI (k:Int) ao n c w (M.fm k) hp0 kE d.kind d.neg d.digits.length d.exp 0 0 (by omega) (by omega) (by omega) _ okB kS rfl _ _ (.inr (.inr ⟨hk2,hk3,.inl ⟨hd0,rfl,rfl⟩⟩)) _ _ true (fun v=>oQ k hk 1 d.neg hp v)
   rw[if_neg hd0,if_neg hd0];obtain⟨z1,z2⟩:=hs.size (by omega);have hD:0<M.dec d.digits:=Nat.lt_of_lt_of_le (Nat.pow_pos (by omega)) z1;have hN:0<peN d:=Nat.mul_pos hD (Nat.pow_pos (by omega));have hDe:0<peD d:=Nat.pow_pos (by omega);unfold rY rF;rw[if_neg (by omega),if_neg (by omega)];obtain⟨c1,c2,c3⟩:=h.clamped (M.dec d.digits) d.digits.length d.exp (by omega) z1 z2 d.neg 2 1
   by_cases hb:5000<(d.digits.length:Int)+d.exp
   . obtain⟨e1,e2⟩:=c1 hb;have f1:(M.fm k).rPt d.neg (peN d) (peD d)=⟨4,d.neg,0,0⟩:=e1;have f2:(M.fm k).rFl (peN d) (peD d) 2 1=1:=e2;rw[f1,f2];have hp:(M.fm k).Proper ⟨4,d.neg,0,0⟩:=by unfold M.Fm.Proper;simp
     exact fI (k:Int) ao n c w (M.fm k) hp0 kE d.kind d.neg d.digits.length d.exp 0 0 (by omega) (by omega) (by omega) _ okB kS rfl _ _ (.inr (.inr ⟨hk2,hk3,.inr (.inl ⟨hd0,hb,rfl,rfl⟩)⟩)) _ _ true (fun v=>oQ k hk 4 d.neg hp v)
   by_cases hsm:(d.digits.length:Int)+d.exp< -5100
   . obtain⟨e1,e2⟩:=c2 hsm;have f1:(M.fm k).rPt d.neg (peN d) (peD d)=⟨1,d.neg,0,0⟩:=e1;have f2:(M.fm k).rFl (peN d) (peD d) 2 1=2:=e2;rw[f1,f2];have hp:(M.fm k).Proper ⟨1,d.neg,0,0⟩:=by unfold M.Fm.Proper;simp
     exact fI (k:Int) ao n c w (M.fm k) hp0 kE d.kind d.neg d.digits.length d.exp 0 0 (by omega) (by omega) (by omega) _ okB kS rfl _ _ (.inr (.inr ⟨hk2,hk3,.inr (.inr ⟨hd0,hsm,rfl,rfl⟩)⟩)) _ _ true (fun v=>oQ k hk 1 d.neg hp v)
   have hcl:=c3 hb hsm;obtain⟨d1,d2,d3⟩:=MP hs hl8
   have kD:∀(v:World)(a:Option Addr)(cc:Nat),((∀x∈d.digits,x<256)->RdB v a d.digits)->Calls Tryz.prog 20 #[.slice a d.digits.length cc] v fun e w'=>Ret v w' e (D (M.dec d.digits)):=fun v a cc ho=>nY a d.digits.length cc d.digits v rfl (by omega) hs.dig (ho (fun x hx=>by have:=hs.dig x hx;omega))
   by_cases hex:0<=d.exp
   . have e1:peN d=M.dec d.digits*10^d.exp.toNat:=by unfold peN;rw[hcl]
     have e2:peD d=1:=by unfold peD;rw[hcl,show(-d.exp).toNat=0 by omega,Nat.pow_zero]
     rw[e1]at hN d2;rw[e2]at hDe d3;rw[e1,e2]
     refine sN (k:Int) ao n c w (M.fm k) hp0 kE d.kind d.neg d.digits.length d.exp 0 0 (by omega) (by omega) (by omega) _ okB kS rfl hk2 hk3 hd0 hb hsm (M.dec d.digits) (10^d.exp.toNat) _ _ _ (.inl ⟨hex,rfl,rfl,rfl⟩) (by omega) ?_ _ _ _ kD (fun v=>?_) (fun v a1 b1 c1 d1' hc r1 r2=>nH k hk d.neg a1 b1 c1 d1' _ _ v hN hDe d2 d3 hc r1 r2)
     . exact Nat.le_trans (iW 10 _ (gN _ (by omega))) (by omega)
     . have:=dO d.exp.toNat v (by omega)
       rwa[Int.toNat_of_nonneg hex]at this
   . have e1:peN d=M.dec d.digits:=by unfold peN;rw[hcl,show d.exp.toNat=0 by omega,Nat.pow_zero,Nat.mul_one]
     have e2:peD d=10^(-d.exp).toNat:=by unfold peD;rw[hcl]
     rw[e1]at hN d2;rw[e2]at hDe d3;rw[e1,e2]
     refine sN (k:Int) ao n c w (M.fm k) hp0 kE d.kind d.neg d.digits.length d.exp 0 0 (by omega) (by omega) (by omega) _ okB kS rfl hk2 hk3 hd0 hb hsm (M.dec d.digits) (10^(-d.exp).toNat) _ _ _ (.inr ⟨by omega,rfl,rfl,rfl⟩) (by omega) (by omega) _ _ _ kD (fun v=>?_) (fun v a1 b1 c1 d1' hc r1 r2=>nH k hk d.neg a1 b1 c1 d1' _ _ v hN hDe d2 d3 hc r1 r2)
     have:=dO (-d.exp).toNat v (by omega)
     rwa[Int.toNat_of_nonneg (by omega)]at this

end Go.Proofs.YtfdgkleoaehjaaaGreatDoor
