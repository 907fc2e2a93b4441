import Derived.Test.YtfdgkleoaehjaaaGreatDoorfGAJ
import Derived.Test.YtfdgkleoaehjaaaGreatDoorfGAK
set_option maxHeartbeats 4000000
set_option maxRecDepth 10000
namespace Go.Proofs.YtfdgkleoaehjaaaGreatDoor
open Go.RowKit
set_option linter.unusedVariables false
set_option maxRecDepth 100000

def pki (F:M.Fm)(c:Int)(n:Bool)(s:Nat)(q:Int):Nat:=
 if c=2 then jn F n 0 s else if c=3 then jn F n (IntKind.i64.wrap (q+(F.emax:Int)+(F.p:Int)-1)) s
 else if c=4 then jn F n (F.top:Int) F.lead else if c=5 then jn F false (F.top:Int) ((F.lead+2^(F.p-2))%2^128)else jn F n 0 0

theorem RD (v:World)(xs ys zs:Array Value)(t s r:TypeId):∃V,((v.alloc (.cells xs t)).alloc (.cells ys s)).alloc (.cells zs r)=V/\Cls V v.heap.size xs t/\Cls V (v.heap.size+1) ys s/\Cls V (v.heap.size+1+1) zs r/\Below v.heap.size v V:=
 ⟨_,rfl,Cls.new3 v xs ys zs t s r⟩

theorem djz (F:M.Fm)(h:F.Ok)(n:Bool)(s:Nat)(hs:s<2^128)(Z:Int)(v:World)(z:Int)(hz:z=Z):
 Calls Tryz.prog 93 #[.agg #[.int .i64 (F.p:Int),.int .i64 (1-(F.emax:Int)),.int .i64 (F.emax:Int),.int .i64 (F.wd:Int),.int .i64 (F.e:Int),.bool F.x],.bool n,.int .i64 z,.agg #[.int .u64 (M.hiN s:Int),.int .u64 (M.loN s:Int)]] v fun e w'=>e=.returned (.agg #[.int .u64 (M.hiN (jn F n Z s):Int),.int .u64 (M.loN (jn F n Z s):Int)])/\Below v.heap.size v w':=by
 rw[hz];exact IE F h n Z s hs v

theorem uV (F:M.Fm)(h:F.Ok)(c:Int)(n:Bool)(s:Nat)(q:Int)(hs:s<2^128)(w:World):
 Calls Tryz.prog 48 #[.agg #[.int .i64 (F.p:Int),.int .i64 (1-(F.emax:Int)),.int .i64 (F.emax:Int),.int .i64 (F.wd:Int),.int .i64 (F.e:Int),.bool F.x],.agg #[.int .i64 c,.bool n,.int .u64 (M.hiN s:Int),.int .u64 (M.loN s:Int),.int .i64 q]] w fun e w'=>e=.returned (.agg #[.int .u64 (M.hiN (pki F c n s q):Int),.int .u64 (M.loN (pki F c n s q):Int)])/\Below w.heap.size w w':=by
 obtain⟨V,hV,cd,cp,cr,b0⟩:=RD w #[.int .i64 (F.p:Int),.int .i64 (1-(F.emax:Int)),.int .i64 (F.emax:Int),.int .i64 (F.wd:Int),.int .i64 (F.e:Int),.bool F.x] #[.int .i64 c,.bool n,.int .u64 (M.hiN s:Int),.int .u64 (M.loN s:Int),.int .i64 q] #[.int .u64 0,.int .u64 0] 37 67 27;have HV:=hid hV;have HB:=hid b0
 have kT:=fun v:World=>SD F h v
 have kL:=fun v:World=>LC F h v
 simp only[dv]at kT kL;have A0:Below V.heap.size V V.drew:=(Below.refl _ _).drew
 obtain⟨S,hS⟩:∃S:World->Prop,S=(fun v=>v.cell? ⟨w.heap.size,0,none⟩=some (.int .i64 (F.p:Int))/\v.cell? ⟨w.heap.size,1,none⟩=some (.int .i64 (1-(F.emax:Int)))/\v.cell? ⟨w.heap.size,2,none⟩=some (.int .i64 (F.emax:Int))/\v.cell? ⟨w.heap.size,3,none⟩=some (.int .i64 (F.wd:Int))/\v.cell? ⟨w.heap.size,4,none⟩=some (.int .i64 (F.e:Int))/\v.cell? ⟨w.heap.size,5,none⟩=some (.bool F.x)/\v.cell? ⟨w.heap.size+1,1,none⟩=some (.bool n)):=⟨_,rfl⟩
 have KB:∀v:World,Below V.heap.size V v->S v:=fun v hv=>by rw[hS];exact⟨(cd.below hv).cell 0 rfl,(cd.below hv).cell 1 rfl,(cd.below hv).cell 2 rfl,(cd.below hv).cell 3 rfl,(cd.below hv).cell 4 rfl,(cd.below hv).cell 5 rfl,(cp.below hv).cell 1 rfl⟩
 have KS:∀(v:World)(x y:Value),Below V.heap.size V v->S ((v.setCell ⟨w.heap.size+1+1,0,none⟩ x).setCell ⟨w.heap.size+1+1,1,none⟩ y):=fun v x y hv=>by
  have k:=KB v hv;rw[hS]at k|-;obtain⟨d0,d1,d2,d3,d4,d5,p1⟩:=k
  refine⟨?_,?_,?_,?_,?_,?_,?_⟩<;>(refine(gL v x y (by omega)).trans ?_;assumption)
 subst hS
 have KR:=hid (fun(u:World)(hb:Below V.heap.size V u)=>cr.below hb)
 clear hV b0 cr cd cp;rcases(show(c=4\/c=5)\/c=2\/c=3\/(c≠2/\c≠3/\c≠4/\c≠5) by omega)with(rfl|rfl)|rfl|rfl|⟨h2,h3,h4,h5⟩
 . have kJ:=fun v:World=>IE F h n (F.top:Int) F.lead (nR h) v
   rw[show pki F 4 n s q=jn F n (F.top:Int) F.lead from rfl];generalize jn F n (F.top:Int) F.lead=Q at*;go_enter Tryz.func48,Tryz.ntmps48;go_upto_region 7 with fail;rw[HV.out]
   go_region_held3 (fun v=>v.cell? ⟨w.heap.size,0,none⟩=some (.int .i64 (F.p:Int))/\v.cell? ⟨w.heap.size,1,none⟩=some (.int .i64 (1-(F.emax:Int)))/\v.cell? ⟨w.heap.size,2,none⟩=some (.int .i64 (F.emax:Int))/\v.cell? ⟨w.heap.size,3,none⟩=some (.int .i64 (F.wd:Int))/\v.cell? ⟨w.heap.size,4,none⟩=some (.int .i64 (F.e:Int))/\v.cell? ⟨w.heap.size,5,none⟩=some (.bool F.x)/\v.cell? ⟨w.heap.size+1,1,none⟩=some (.bool n)) (first|with_reducible exact KB _ hb3|with_reducible exact KB _ hb2|with_reducible exact KB _ hb1|with_reducible exact KB _ A0|with_reducible exact KS _ _ _ hb3)
    (first|(have hq:=hb2;clear hq;go_at_call 93;refine(kJ _).mono ?_;rintro e u3 ⟨rfl,hb0⟩;have hb3:=aK (w1:=V) hb2 hb0;clear hb0;have r0:=(KR.out _ hb3).cell 0 rfl;have r1:=(KR.out _ hb3).cell 1 rfl;have r2:=(KR.out _ hb3).frozen 0;have r3:=(KR.out _ hb3).frozen 1)|(have hq:=hb1;clear hq;go_at_call 94;refine(kL _).mono ?_;rintro e u2 ⟨rfl,hb0⟩;have hb2:=aK (w1:=V) hb1 hb0;clear hb0)|(go_at_call 74;refine(kT _).mono ?_;rintro e u1 ⟨rfl,hb0⟩;have hb1:=aK (w1:=V) A0 hb0;clear hb0))
   all_goals go_wp2_with fail
   all_goals exact bodyPost_ret (v:=.agg #[.int .u64 (M.hiN Q:Int),.int .u64 (M.loN Q:Int)]) (by simp[results,Tryz.results48,go_sem,r0,r1]) rfl ⟨rfl,((aK HB.out hb3).setCell (p:=⟨w.heap.size+1+1,0,none⟩) (by simp only;omega) _).setCell (p:=⟨w.heap.size+1+1,1,none⟩) (by simp only;omega) _⟩
 . have hp2:2<=F.p:=by have:=h.p1;omega
   have hp3:=h.p2;have hb2:2^(F.p-2)<2^128:=Nat.pow_lt_pow_right (by omega) (by omega)
   have kB:∀(v:World)(z:Int),z=(F.p:Int)-2->Calls Tryz.prog 95 #[.int .i64 z] v fun e w'=>e=.returned (.agg #[.int .u64 (M.hiN (2^(F.p-2)):Int),.int .u64 (M.loN (2^(F.p-2)):Int)])/\Below v.heap.size v w':=fun v z hz=>by
    rw[hz,show(F.p:Int)-2=((F.p-2:Nat):Int) by omega];exact wH (F.p-2) v (by omega) _ rfl
   have kP:=fun v:World=>DG F.lead (2^(F.p-2)) v (nR h) hb2 _ rfl
   have kJ:=fun v:World=>IE F h false (F.top:Int) ((F.lead+2^(F.p-2))%2^128) (Nat.mod_lt _ (by omega)) v
   rw[show pki F 5 n s q=jn F false (F.top:Int) ((F.lead+2^(F.p-2))%2^128)from rfl];generalize(F.lead+2^(F.p-2))%2^128=Y at*;generalize 2^(F.p-2)=T at*;generalize jn F false (F.top:Int) Y=Q at*;clear hb2;go_enter Tryz.func48,Tryz.ntmps48;go_upto_region 9 with fail;rw[HV.out]
   go_region_held3 (fun v=>v.cell? ⟨w.heap.size,0,none⟩=some (.int .i64 (F.p:Int))/\v.cell? ⟨w.heap.size,1,none⟩=some (.int .i64 (1-(F.emax:Int)))/\v.cell? ⟨w.heap.size,2,none⟩=some (.int .i64 (F.emax:Int))/\v.cell? ⟨w.heap.size,3,none⟩=some (.int .i64 (F.wd:Int))/\v.cell? ⟨w.heap.size,4,none⟩=some (.int .i64 (F.e:Int))/\v.cell? ⟨w.heap.size,5,none⟩=some (.bool F.x)/\v.cell? ⟨w.heap.size+1,1,none⟩=some (.bool n)) (first|with_reducible exact KB _ hb5|with_reducible exact KB _ hb4|with_reducible exact KB _ hb3|with_reducible exact KB _ hb2|with_reducible exact KB _ hb1|with_reducible exact KB _ A0|with_reducible exact KS _ _ _ hb5)
    (first|(have hq:=hb4;clear hq;go_at_call 93;refine(kJ _).mono ?_;rintro e u5 ⟨rfl,hb0⟩;have hb5:=aK (w1:=V) hb4 hb0;clear hb0;have r0:=(KR.out _ hb5).cell 0 rfl;have r1:=(KR.out _ hb5).cell 1 rfl;have r2:=(KR.out _ hb5).frozen 0;have r3:=(KR.out _ hb5).frozen 1)|(have hq:=hb3;clear hq;go_at_call 77;refine(kP _).mono ?_;rintro e u4 ⟨rfl,hb0⟩;have hb4:=aK (w1:=V) hb3 hb0;clear hb0)|(have hq:=hb2;clear hq;go_at_call 95;refine(kB _ _ (by first|with_reducible rfl|omega|(simp only[IntKind.wrap_i64];omega))).mono ?_;rintro e u3 ⟨rfl,hb0⟩;have hb3:=aK (w1:=V) hb2 hb0;clear hb0)|(have hq:=hb1;clear hq;go_at_call 94;refine(kL _).mono ?_;rintro e u2 ⟨rfl,hb0⟩;have hb2:=aK (w1:=V) hb1 hb0;clear hb0)|(go_at_call 74;refine(kT _).mono ?_;rintro e u1 ⟨rfl,hb0⟩;have hb1:=aK (w1:=V) A0 hb0;clear hb0))
   all_goals go_wp2_with fail
   all_goals exact bodyPost_ret (v:=.agg #[.int .u64 (M.hiN Q:Int),.int .u64 (M.loN Q:Int)]) (by simp[results,Tryz.results48,go_sem,r0,r1]) rfl ⟨rfl,((aK HB.out hb5).setCell (p:=⟨w.heap.size+1+1,0,none⟩) (by simp only;omega) _).setCell (p:=⟨w.heap.size+1+1,1,none⟩) (by simp only;omega) _⟩
 have kQ:=djz F h n s hs 0;rw[show pki F 2 n s q=jn F n 0 s from rfl];generalize jn F n 0 s=Q at*;rotate_left;have kQ:=djz F h n s hs (IntKind.i64.wrap (q+(F.emax:Int)+(F.p:Int)-1));rw[show pki F 3 n s q=jn F n (IntKind.i64.wrap (q+(F.emax:Int)+(F.p:Int)-1)) s from rfl];generalize jn F n (IntKind.i64.wrap (q+(F.emax:Int)+(F.p:Int)-1)) s=Q at*;rotate_left;have kQ:=djz F h n 0 (by omega) 0;simp only[hi0,lo0]at kQ;rw[show pki F c n s q=jn F n 0 0 by unfold pki;rw[if_neg h2,if_neg h3,if_neg h4,if_neg h5]];generalize jn F n 0 0=Q at*
 all_goals(
  clear KB KS A0;go_enter Tryz.func48,Tryz.ntmps48;go_wp2_with fail;refine(kQ _ _ (by first|with_reducible rfl|(simp only[wrap64,IntKind.wrap_i64];omega)|(simp only[IntKind.wrap_i64];omega))).mono ?_;rintro e u ⟨rfl,hbj⟩;rw[HV.out]at hbj;have r0:=(KR.out _ hbj).cell 0 rfl;have r1:=(KR.out _ hbj).cell 1 rfl;have r2:=(KR.out _ hbj).frozen 0;have r3:=(KR.out _ hbj).frozen 1;have bb:=hid (aK HB.out hbj);clear hbj;go_wp2_with fail
  exact bodyPost_ret (v:=.agg #[.int .u64 (M.hiN Q:Int),.int .u64 (M.loN Q:Int)]) (by simp[results,Tryz.results48,go_sem,r0,r1]) rfl ⟨rfl,(bb.out.setCell (p:=⟨w.heap.size+1+1,0,none⟩) (by simp only;omega) _).setCell (p:=⟨w.heap.size+1+1,1,none⟩) (by simp only;omega) _⟩)

structure Qv (w v:World)(c:Int)(n:Bool)(s:Nat)(q:Int):Prop where
 b:Below w.heap.size w v
 p:v.cell? ⟨w.heap.size,0,none⟩=some (.int .i64 c)/\v.cell? ⟨w.heap.size,1,none⟩=some (.bool n)/\v.cell? ⟨w.heap.size,2,none⟩=some (.int .u64 (M.hiN s:Int))/\v.cell? ⟨w.heap.size,3,none⟩=some (.int .u64 (M.loN s:Int))/\v.cell? ⟨w.heap.size,4,none⟩=some (.int .i64 q)
 r:W2 v (w.heap.size+1) 0

theorem Qv.below {w v v':World}{c:Int}{n:Bool}{s:Nat}{q:Int}(h:Qv w v c n s q)(hb:Below v.heap.size v v'):Qv w v' c n s q:=by
 have hl:w.heap.size<v.heap.size:=Nat.lt_trans (Nat.lt_succ_self _) h.r.2.2.2.2;obtain⟨d0,d1,d2,d3,d4⟩:=h.p;exact⟨h.b.trans (hb.mono h.b.size),⟨(hb.cell hl).trans d0,(hb.cell hl).trans d1,(hb.cell hl).trans d2,(hb.cell hl).trans d3,(hb.cell hl).trans d4⟩,h.r.below hb⟩

theorem OG {k:Nat}(h:k<18446744073709551616):uw (k:Int)=k:=by
 unfold uw;rw[IntKind.wrap_u64];omega

theorem P4 {F:M.Fm}(h:F.Ok){fld sg:Nat}(hs:sg<2^128)(hl:F.x=false/\0<fld->F.lead<=sg):js F (fld:Int) sg=if F.x=false/\0<fld then sg-F.lead else sg:=by
 by_cases hc:F.x=false/\0<fld
 . rw[JX sg ⟨hc.1,by omega⟩,if_pos hc];have h1:=hl hc;have h2:=nR h;generalize F.lead=L at*;have e:sg+(2^128-L)=(sg-L)+2^128:=by omega
   rw[e,Nat.add_mod_right];exact Nat.mod_eq_of_lt (by omega)
 . rw[NU sg (fun hh=>hc ⟨hh.1,by omega⟩),if_neg hc]

theorem nT {F:M.Fm}(h:F.Ok)(n:Bool){fld sg:Nat}(hf:fld<18446744073709551616)(hs:sg<2^128)(hl:F.x=false/\0<fld->F.lead<=sg)(hw:F.word n fld sg<2^128):jn F n (fld:Int) sg=F.word n fld sg:=by
 have e1:=P4 h hs hl;unfold jn jy;unfold M.Fm.word at hw|-;rw[OG hf,e1];generalize(if F.x=false/\0<fld then sg-F.lead else sg)=S at*;generalize fld*2^F.fb=A at*;cases n
 . simp only[Bool.false_eq_true,if_false]at hw|-;rw[Nat.mod_eq_of_lt (a:=A) (by omega),Nat.mod_eq_of_lt (by omega)];omega
 . simp only[if_true]at hw|-;generalize 2^(F.wd-1)=B at*;rw[Nat.mod_eq_of_lt (a:=A) (by omega),Nat.mod_eq_of_lt (a:=A+S) (by omega),Nat.mod_eq_of_lt (by omega)]

theorem o9 {F:M.Fm}(h:F.Ok)(t:M.Pt)(hp:F.Proper t):pki F t.c t.n t.s t.q=F.pk t:=by
 have hw:=(h.upk_pk t hp).2;have hl:=h.leadPos;have ht:=h.top2;have hh:=h.half;have hll:=nR h;have hW:2^F.wd<=2^128:=Nat.pow_le_pow_right (by omega) h.w;have hlt:=Nat.lt_of_lt_of_le hw hW;have hp2:=h.p2;have hl2:F.lead<=2^112:=by unfold M.Fm.lead;exact Nat.pow_le_pow_right (by omega) (by omega)
 have hte:F.top<18446744073709551616:=by omega
 clear hw hW;unfold M.Fm.pk at hlt|-;unfold pki
 by_cases h2:t.c=2
 . rw[if_pos h2]at hlt|-;rw[if_pos h2]
   refine nT h t.n (fld:=0) (by omega) ?_ (fun hc=>absurd hc.2 (by omega)) hlt
   rcases hp with hp|hp|hp|hp|hp<;>(have:=hp.1;omega)
 . rw[if_neg h2]at hlt|-;rw[if_neg h2]
   by_cases h3:t.c=3
   . rw[if_pos h3]at hlt|-;rw[if_pos h3]
     have hq:F.lead<=t.s/\t.s<2*F.lead/\1<=t.q+F.emax+F.p-1/\t.q+F.emax+F.p-1<F.top:=by
      rcases hp with hp|hp|hp|hp|hp
      . have:=hp.1;omega
      . have:=hp.1;omega
      . have:=hp.1;omega
      . have:=hp.1;omega
      . exact hp.2
     obtain⟨k,hk⟩:∃k:Nat,t.q+(F.emax:Int)+(F.p:Int)-1=(k:Int):=⟨(t.q+F.emax+F.p-1).toNat,by omega⟩;rw[hk]at hlt hq|-;rw[Int.toNat_natCast]at hlt|-;rw[show IntKind.i64.wrap (k:Int)=(k:Int) by rw[IntKind.wrap_i64];omega]
     exact nT h t.n (by omega) (by omega) (fun hc=>hq.1) hlt
   . rw[if_neg h3]at hlt|-;rw[if_neg h3]
     by_cases h4:t.c=4
     . rw[if_pos h4]at hlt|-;rw[if_pos h4]
       exact nT h t.n hte hll (fun hc=>Nat.le_refl _) hlt
     . rw[if_neg h4]at hlt|-;rw[if_neg h4]
       by_cases h5:t.c=5
       . rw[if_pos h5]at hlt|-;rw[if_pos h5];generalize 2^(F.p-2)=H at*;rw[Nat.mod_eq_of_lt (a:=F.lead+H) (by omega)]
         exact nT h false hte (by omega) (fun hc=>by omega) hlt
       . rw[if_neg h5]at hlt|-;rw[if_neg h5]
         exact nT h t.n (fld:=0) (sg:=0) (by omega) (by omega) (fun hc=>absurd hc.2 (by omega)) hlt

def rY (F:M.Fm)(ng:Bool)(N De:Nat):Nat:=if N=0 then F.pk ⟨1,ng,0,0⟩else F.pk (F.rPt ng N De)

def rF (F:M.Fm)(N De:Nat):Int:=if N=0 then 0 else F.rFl N De 2 1

def rv (F:M.Fm)(ng:Bool)(N De:Nat):Value:=.agg #[.int .u64 (M.hiN (rY F ng N De):Int),.int .u64 (M.loN (rY F ng N De):Int),.int .i64 (rF F N De),.bool true]

theorem uG (N K:Nat)(h:(L N).length<=K):aB N<=64*K:=by
 refine bX N _ ?_;have:=sZ N K h
 rwa[show(18446744073709551616:Nat)=2^64 by rfl,<-Nat.pow_mul]at this

theorem Q7 (F:M.Fm)(ng:Bool)(N De:Nat):(F.rPt ng N De).n=ng:=by
 unfold M.Fm.rPt;split
 . rfl
 . split
   . rfl
   . split<;>rfl

theorem AW (F:M.Fm)(h:F.Ok)(ng:Bool)(a b:Option Addr)(c d N De:Nat)(w:World)(hN:0<N)(hd:0<De)(lN:(L N).length<=1201)(lD:(L De).length<=1201)(ra:Rd w a (L N))(rb:Rd w b (L De)):
 Calls Tryz.prog 98 #[dv F,.bool ng,.slice a (L N).length c,.slice b (L De).length d] w fun e w'=>e=.returned (rv F ng N De)/\Below w.heap.size w w':=by
 have p1:=h.p1;have p2:=h.p2;have t2:=h.top2;have bN:=uG N _ lN;have bD:=uG De _ lD;have e1:=M.ID N De (by omega) (by omega);obtain⟨q1,q2,q3,q4,q5⟩:=h.rQ_le N De (by omega) (by omega);obtain⟨m1,m2,m3⟩:=h.rS_ok N De hN hd;have m4:=h.rS_le N De hN hd;have m5:=h.rSig_lt N De hN hd;have tl:=h.two_lead;have pw:2^F.p<=2^113:=Nat.pow_le_pow_right (by omega) p2;have pp:=h.rPt_proper ng N De hN hd
 have hne:(((L N).length:Int)==0)=false:=by
  rw[sH];exact decide_eq_false (by omega)
 have o1:M.hiN 1=0:=by decide
 have o2:M.loN 1=1:=by decide
 have kQ:=fun v:World=>QS F h v
 have kL:=fun v:World=>LC F h v
 simp only[dv]at kQ kL|-;unfold rv rY rF;rw[if_neg (by omega),if_neg (by omega)];refine CN ng _ _ _ _ _ _ a b c d N De w hne ra rb (F.rN N De) (F.rM N De) (F.rS N De) (F.rSig N De) (F.rQ N De) (F.rExp N De) (F.rPt ng N De).c (F.rPt ng N De).q (F.rFl N De 2 1) (F.rPt ng N De).s (F.pk (F.rPt ng N De)) ?_ ?_ ?_ ?_ ?_
 . --scale
   intro v g hB ra rb sa sb;refine AN g _ _ _ _ _ _ a b c d N De 0 0 v hB ra rb sa sb (M.rE N De) F.qmin (F.rQ N De) (by omega) (by omega) (by omega) (by omega) rfl (by omega) (by omega) ?_ kQ ((-(F.rQ N De)).toNat:Int) ((F.rQ N De).toNat:Int) (by omega) (by omega) (F.rN N De) (F.rM N De) ?_ ?_
   . intro v hB ra rb
     refine K7 g _ _ _ _ _ _ a b c d N De 0 0 v hB ra rb (aB N) (aB De) (by omega) (by omega) (fun v hr=>qK a _ c N v rfl (by omega) hr _ rfl) (fun v hr=>qK b _ d De v rfl (by omega) hr _ rfl) ((aB N:Int)-aB De) ((-((aB N:Int)-aB De)).toNat:Int) (((aB N:Int)-aB De).toNat:Int) rfl (by omega) (by omega)
      (N*2^(-((aB N:Int)-aB De)).toNat) (De*2^((aB N:Int)-aB De).toNat) (fun v hr=>aS a _ c _ N v rfl (by omega) (by omega) hr) (fun v hr=>aS b _ d _ De v rfl (by omega) (by omega) hr) _
      (fun v ao bo c d hr hr2=>dU ao bo _ _ c d _ _ v rfl rfl (Nat.le_trans (cM N _ 1201 1500 lN (by omega)) (by omega)) (Nat.le_trans (cM De _ 1201 1500 lD (by omega)) (by omega)) hr hr2) _ ?_
     have e2:=JS (N*2^(-((aB N:Int)-aB De)).toNat) (De*2^((aB N:Int)-aB De).toNat);unfold M.rE;simp only[decide_eq_decide]at e2
     by_cases hc:M.lt2 N De ((aB N:Int)-aB De)
     . rw[if_pos hc,if_pos (e2.2 hc)]
     . rw[if_neg hc,if_neg (fun k=>hc (e2.1 k))]
   . exact fun v hr=>aS a _ c _ N v rfl (by omega) (by omega) hr
   . exact fun v hr=>aS b _ d _ De v rfl (by omega) (by omega) hr
 . --nearest
   intro v g a1 c1 a2 c2 hB r1 r2 s1 s2;have l1:(L (F.rN N De)).length<=2701:=cM N _ 1201 1500 lN (by omega);have l2:(L (F.rM N De)).length<=2701:=cM De _ 1201 1500 lD (by omega);have hlt:F.rN N De/F.rM N De<2^128:=by omega
   have hrm:F.rN N De%F.rM N De<F.rM N De:=Nat.mod_lt _ m1
   have l3:(L (F.rN N De%F.rM N De)).length<=2701:=by
    rcases Nat.lt_or_ge 2701 (L (F.rN N De%F.rM N De)).length with hh|hh
    . have:=M.dF (B:=18446744073709551616) (by omega) (a:=F.rM N De) (b:=F.rN N De%F.rM N De) (Nat.lt_of_le_of_lt l2 hh);omega
    . exact hh
   have kPl:=fun v:World=>DG (F.rN N De/F.rM N De) 1 v hlt (by omega) (F.rN N De/F.rM N De+1) (by rw[Nat.mod_eq_of_lt];omega)
   rw[o1,o2]at kPl
   have kSh:=fun(v:World)(ao:Option Addr)(cc:Nat)(hr:Rd v ao (L (F.rN N De%F.rM N De)))=>aS ao _ cc 1 (F.rN N De%F.rM N De) v rfl (by omega) (by omega) hr
   rw[Nat.pow_one]at kSh
   have l4:(L (F.rN N De%F.rM N De*2)).length<=2702:=by
    have:=cM (F.rN N De%F.rM N De) 1 2701 1 l3 (by omega)
    rwa[Nat.pow_one]at this
   exact GK g _ _ _ _ _ _ a1 a2 c1 c2 _ _ 0 (F.rQ N De) v hB r1 r2 s1 s2 (F.rN N De/F.rM N De) (F.rN N De%F.rM N De) (fun v hr hr2=>rP a1 a2 _ _ c1 c2 _ _ v rfl rfl m1 (by omega) (by omega) hr hr2) (fun v ao cc hr=>tJ ao _ cc _ v rfl hlt hr) kSh
    _ (fun v ao cc hr hr2=>dU ao a2 _ _ cc c2 _ _ v rfl rfl (by omega) (by omega) hr hr2) (fun v=>JV _ v) kPl (F.rS N De) (M.C9 _ _)
 . --carry
   intro v g a1 n1 c1 a2 n2 c2 hB
   exact A4 g _ _ _ _ _ _ a1 a2 n1 c1 n2 c2 (F.rS N De) (F.rQ N De) v hB (2^F.p) F.lead (fun v=>wH F.p v (by omega) _ rfl) kL (by omega) (by omega) _ _ rfl rfl
 . --outcome
   intro v g a1 n1 c1 a2 n2 c2 hB
   have kC:=fun(cz:Int)(hcz:cz=M.fV (F.rSig N De) F.lead)(v:World)=>RT (F.rSig N De) F.lead v cz hcz
   have hx:-100000<=F.rExp N De/\F.rExp N De<=200000:=by unfold M.Fm.rExp;split<;>omega
   unfold M.Fm.rPt M.Fm.rFl
   by_cases k1:F.rSig N De=0
   . rw[if_pos k1,if_pos k1];rw[k1]at hB;have:=DV g _ _ _ _ _ _ a1 a2 n1 c1 n2 c2 _ v hB;simp only[hi0,lo0];exact this
   . rw[if_neg k1,if_neg k1]
     by_cases k2:F.rSig N De<F.lead
     . rw[if_pos k2,if_pos k2];have hz:M.fV (F.rSig N De) F.lead= -1:=by unfold M.fV;rw[if_pos k2]
       exact CF g _ _ _ _ _ _ a1 a2 n1 c1 n2 c2 _ _ v hB k1 F.lead (-1) kL (kC _ hz.symm) _ _ _ _ _ (.inl ⟨by omega,rfl,rfl,rfl,rfl,rfl⟩)
     . rw[if_neg k2,if_neg k2]
       have hz:¬M.fV (F.rSig N De) F.lead<0:=by
        unfold M.fV;rw[if_neg k2];split<;>omega
       by_cases k3:(F.emax:Int)<F.rExp N De+F.p-1
       . rw[if_pos k3,if_pos k3];have:=CF g _ _ _ _ _ _ a1 a2 n1 c1 n2 c2 _ _ v hB k1 F.lead _ kL (kC _ rfl) _ _ _ _ _ (.inr ⟨hz,⟨by omega,by omega,by omega,by omega⟩,.inl ⟨k3,rfl,rfl,rfl,rfl,rfl⟩⟩);simp only[hi0,lo0];exact this
       . rw[if_neg k3,if_neg k3];exact CF g _ _ _ _ _ _ a1 a2 n1 c1 n2 c2 (F.rSig N De) (F.rExp N De) v hB k1 F.lead _ kL (kC _ rfl) _ _ _ _ _ (.inr ⟨hz,⟨hx.1,hx.2,by omega,by omega⟩,.inr ⟨k3,rfl,rfl,rfl,rfl,rfl⟩⟩)
 . --pack
   intro v
   have hs:(F.rPt ng N De).s<2^128:=by
    unfold M.Fm.rPt;split
    . simp only;omega
    . split
      . simp only;omega
      . split<;>simp only<;>omega
   have:=uV F h (F.rPt ng N De).c ng (F.rPt ng N De).s (F.rPt ng N De).q hs v;have e:=o9 h (F.rPt ng N De) pp;rw[Q7]at e;rw[e]at this;exact this

theorem sM (F:M.Fm)(h:F.Ok)(ng:Bool)(a b:Option Addr)(c d N De:Nat)(w:World)(hd:0<De)(lN:(L N).length<=1201)(lD:(L De).length<=1201)(ra:Rd w a (L N))(rb:Rd w b (L De)):
 Calls Tryz.prog 98 #[dv F,.bool ng,.slice a (L N).length c,.slice b (L De).length d] w fun e w'=>e=.returned (rv F ng N De)/\Below w.heap.size w w':=by
 by_cases hN:N=0
 . subst hN;have e0:(L 0).length=0:=by simp[L,M.aH]
   rw[e0]
   have kP:=fun v:World=>uV F h 1 ng 0 0 (by omega) v
   have e:=o9 h ⟨1,ng,0,0⟩ (.inl ⟨rfl,rfl,rfl⟩);simp only at e;rw[e]at kP;simp only[hi0,lo0]at kP;simp only[dv];unfold rv rY rF;rw[if_pos rfl,if_pos rfl];exact xM ng _ _ _ _ _ _ a b c _ d w _ kP
 . exact AW F h ng a b c d N De w (by omega) hd lN lD ra rb

end Go.Proofs.YtfdgkleoaehjaaaGreatDoor
