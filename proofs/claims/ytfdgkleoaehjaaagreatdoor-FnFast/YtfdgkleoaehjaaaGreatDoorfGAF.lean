import Derived.Test.YtfdgkleoaehjaaaGreatDoorfGAE
import Derived.Test.YtfdgkleoaehjaaaGreatDoorfLenA
set_option maxHeartbeats 4000000
set_option maxRecDepth 100000
namespace Go.Proofs.YtfdgkleoaehjaaaGreatDoor
open Go.RowKit
set_option linter.unusedVariables false
set_option maxRecDepth 100000

theorem p9 (x:Nat)(w:World)(h:x<18446744073709551616)(b:Nat)(hb:b=aB x):
 Calls Tryz.prog 152 #[.int .u64 (x:Int)] w fun e w'=>e=.returned (.int .i64 (b:Int))/\w'=w:=by
 have:=DS (x:Int) w (by omega) (by omega);rw[Int.toNat_natCast,GB x h,<-hb]at this;exact this

theorem O4 (a:Nat)(h:0<a):aB a=64*((L a).length-1)+aB ((L a).getD ((L a).length-1) 0):=by
 have h1:=M.oZ (B:=18446744073709551616) (by omega) a h;have h2:=M.j5 (B:=18446744073709551616) (by omega) a;have hl:(L a).length≠0:=by unfold L;rw[M.aV (by omega) h];simp
 obtain⟨m,hm⟩:∃m,(L a).length=m+1:=⟨(L a).length-1,by omega⟩;have hm':(M.dig 18446744073709551616 a).length=m+1:=hm;rw[hm']at h1 h2;rw[hm,Nat.add_sub_cancel]at*;have e:(18446744073709551616:Nat)^m=2^(64*m):=by rw[show(18446744073709551616:Nat)=2^64 from rfl,<-Nat.pow_mul]
 have hg:(L a).getD m 0=a/18446744073709551616^m:=by
  have hh:(M.dig 18446744073709551616 a).getD m 0=a/18446744073709551616^m%18446744073709551616:=by
   have:∀k n,(M.dig 18446744073709551616 n).getD k 0=n/18446744073709551616^k%18446744073709551616:=by
    intro k
    induction k with
    |zero=>
     intro n
     by_cases hn:0<n
     . rw[M.aV (by omega) hn];simp
     . have:n=0:=by omega
       subst this;simp[M.aH]
    |succ k ih=>
     intro n
     by_cases hn:0<n
     . rw[M.aV (by omega) hn,List.getD_cons_succ,ih,Nat.div_div_eq_div_mul,Nat.pow_succ,Nat.mul_comm 18446744073709551616]
     . have:n=0:=by omega
       subst this;simp[M.aH]
   exact this m a
  unfold L;rw[hh]
  apply Nat.mod_eq_of_lt
  apply Nat.div_lt_of_lt_mul
  rw[<-Nat.pow_succ];exact h2
 rw[hg,e];exact qY (64*m) a (by rw[<-e];exact h1)

theorem qK (ao:Option Addr)(n c:Nat)(a:Nat)(w:World)(hl:(L a).length=n)(hn:n<=1048576)(hr:Rd w ao (L a))(b:Nat)(hb:b=aB a):
 Calls Tryz.prog 165 #[.slice ao n c] w fun e w'=>e=.returned (.int .i64 (b:Int))/\w'=w:=by
 by_cases h0:n=0
 . subst h0
   have ha:a=0:=by
    rcases Nat.eq_zero_or_pos a with h|h
    . exact h
    . unfold L at hl;rw[M.aV (by omega) h]at hl;simp at hl
   have hb0:b=0:=by rw[hb,ha,fJ]
   subst hb0;clear hb ha hl hr;go_enter Tryz.func165,Tryz.ntmps165;go_wp2_with fail;go_ret;exact⟨rfl,rfl⟩
 . obtain⟨m,rfl⟩:∃m,n=m+1:=⟨n-1,by omega⟩
   have ha:0<a:=by
    rcases Nat.eq_zero_or_pos a with h|h
    . rw[h]at hl;simp[L,M.aH]at hl
    . exact h
   have hbl:=O4 a ha;rw[hl,Nat.add_sub_cancel]at hbl;obtain⟨b1,o1,hao,hcl⟩:=hr (by omega);have hck:=hcl m (by omega);clear hcl;have ht:=(gP a).get m;obtain⟨t,htt⟩:∃t:Nat,t=(L a).getD m 0:=⟨_,rfl⟩;rw[<-htt]at hck ht hbl;rw[<-hb]at hbl;have hne:(((m:Int)+1)==0)=false:=by simp;omega
   have e1:((m+1:Nat):Int)=(m:Int)+1:=by omega
   have hltm:(m:Int)<(m:Int)+1:=by omega
   have hlt64:=bX t 64 (by omega);obtain⟨q,hq⟩:∃q,q=aB t:=⟨_,rfl⟩;rw[<-hq]at hbl hlt64;have HBL:=hid hbl;have HT:=hid htt;have HQ:=hid hq;clear hbl htt hb hq
   have kL:=fun v:World=>p9 t v ht q HQ.out
   have w1:IntKind.i64.wrap ((m:Int)*64)=(m:Int)*64:=by rw[IntKind.wrap_i64];omega
   have w2:IntKind.i64.wrap ((m:Int)*64+(q:Int))=(m:Int)*64+(q:Int):=by rw[IntKind.wrap_i64];omega
   go_enter Tryz.func165,Tryz.ntmps165;go_wp2_with fail;refine(kL _).mono ?_;rintro e w3 ⟨rfl,rfl⟩;go_wp2_with fail;go_ret;exact⟨cG (by have:=HBL.out;omega),rfl⟩

end Go.Proofs.YtfdgkleoaehjaaaGreatDoor
namespace Go.Proofs.YtfdgkleoaehjaaaGreatDoor.M
set_option linter.unusedVariables false
set_option maxRecDepth 100000

def Fm.pat (F:Fm)(n:Bool)(r:Nat):Pt:=
 if r=0 then⟨1,n,0,0⟩else if r<F.lead then⟨2,n,r,F.qmin⟩else if r=F.top*F.lead then⟨4,n,0,0⟩
 else⟨3,n,r%F.lead+F.lead,((r/F.lead:Nat):Int)-F.emax-F.p+1⟩

end Go.Proofs.YtfdgkleoaehjaaaGreatDoor.M
namespace Go.Proofs.YtfdgkleoaehjaaaGreatDoor
open Go.RowKit
set_option linter.unusedVariables false
set_option maxRecDepth 100000

def D6 (v:World)(g:Nat)(e0 e1 e2 e3 e4:Int)(e5:Bool):Prop:=v.cell? ⟨g,0,none⟩=some (.int .i64 e0)/\v.cell? ⟨g,1,none⟩=some (.int .i64 e1)/\v.cell? ⟨g,2,none⟩=some (.int .i64 e2)/\v.cell? ⟨g,3,none⟩=some (.int .i64 e3)/\v.cell? ⟨g,4,none⟩=some (.int .i64 e4)/\v.cell? ⟨g,5,none⟩=some (.bool e5)/\g<v.heap.size

theorem D6.below {v v':World}{g:Nat}{e0 e1 e2 e3 e4:Int}{e5:Bool}(h:D6 v g e0 e1 e2 e3 e4 e5)(hb:Below v.heap.size v v'):D6 v' g e0 e1 e2 e3 e4 e5:=by
 obtain⟨d0,d1,d2,d3,d4,d5,l⟩:=h;exact⟨(hb.cell l).trans d0,(hb.cell l).trans d1,(hb.cell l).trans d2,(hb.cell l).trans d3,(hb.cell l).trans d4,(hb.cell l).trans d5,Nat.lt_of_lt_of_le l hb.size⟩

theorem OI (v:World)(e0 e1 e2 e3 e4:Int)(e5:Bool)(t:TypeId):D6 (v.alloc (.cells #[.int .i64 e0,.int .i64 e1,.int .i64 e2,.int .i64 e3,.int .i64 e4,.bool e5] t)) v.heap.size e0 e1 e2 e3 e4 e5:=by
 unfold D6;simp[go_sem]

theorem D6.far {v:World}{g k:Nat}{e0 e1 e2 e3 e4:Int}{e5:Bool}(h:D6 v g e0 e1 e2 e3 e4 e5)(hk:g≠k)(a b:Value):D6 ((v.setCell ⟨k,0,none⟩ a).setCell ⟨k,1,none⟩ b) g e0 e1 e2 e3 e4 e5:=by
 obtain⟨d0,d1,d2,d3,d4,d5,l⟩:=h;exact⟨(gL v _ _ hk).trans d0,(gL v _ _ hk).trans d1,(gL v _ _ hk).trans d2,(gL v _ _ hk).trans d3,(gL v _ _ hk).trans d4,(gL v _ _ hk).trans d5,by simpa using l⟩

theorem W2.bl {v v':World}{g X:Nat}(h:W2 v g X)(hb:Below v.heap.size v v'):W2 v' g X:=
 ⟨(hb.cell h.2.2.2.2).trans h.1,(hb.cell h.2.2.2.2).trans h.2.1,(hb.frozen h.2.2.2.2).trans h.2.2.1,(hb.frozen h.2.2.2.2).trans h.2.2.2.1,Nat.lt_of_lt_of_le h.2.2.2.2 hb.size⟩

theorem W2.farS {v:World}{g k X:Nat}(h:W2 v g X)(hk:g≠k)(a b:Value):W2 ((v.setCell ⟨k,0,none⟩ a).setCell ⟨k,1,none⟩ b) g X:=by
 obtain⟨d0,d1,f0,f1,l⟩:=h;exact⟨(gL v _ _ hk).trans d0,(gL v _ _ hk).trans d1,(uK v _ _ hk).trans f0,(uK v _ _ hk).trans f1,by simpa using l⟩

structure At (w v:World)(gf gs:Nat)(e0 e1 e2 e3 e4:Int)(e5:Bool)(A X:Nat):Prop where
 b:Below w.heap.size w v
 d:D6 v w.heap.size e0 e1 e2 e3 e4 e5
 o:W2 v (w.heap.size+1+1) 0
 f:W2 v gf A
 s:W2 v gs X
 l:w.heap.size+1+1<gf
 k:gf<gs

theorem At.below {w v v':World}{gf gs:Nat}{e0 e1 e2 e3 e4:Int}{e5:Bool}{A X:Nat}(h:At w v gf gs e0 e1 e2 e3 e4 e5 A X)(hb:Below v.heap.size v v'):At w v' gf gs e0 e1 e2 e3 e4 e5 A X:=
 ⟨h.b.trans (hb.mono h.b.size),h.d.below hb,h.o.bl hb,h.f.bl hb,h.s.bl hb,h.l,h.k⟩

theorem At.set {w v:World}{gf gs:Nat}{e0 e1 e2 e3 e4:Int}{e5:Bool}{A X:Nat}(h:At w v gf gs e0 e1 e2 e3 e4 e5 A X)(Y:Nat):At w ((v.setCell ⟨gs,0,none⟩ (.int .u64 (M.hiN Y:Int))).setCell ⟨gs,1,none⟩ (.int .u64 (M.loN Y:Int))) gf gs e0 e1 e2 e3 e4 e5 A Y:=by
 have l:=h.l;have k:=h.k;refine⟨(h.b.setCell (p:=⟨gs,0,none⟩) (by simp only;omega) _).setCell (p:=⟨gs,1,none⟩) (by simp only;omega) _,h.d.far (by omega) _ _,h.o.farS (by omega) _ _,h.f.farS (by omega) _ _,?_,l,k⟩;exact AH h.s.1 h.s.2.1 h.s.2.2.1 h.s.2.2.2.1

theorem sH (a:Nat):(((L a).length:Int)==0)=decide (a=0):=by
 rw[Bool.eq_iff_iff];simp only[beq_iff_eq,decide_eq_true_eq]
 constructor
 . intro h;have h1:L a=[]:=List.eq_nil_of_length_eq_zero (by omega);have h2:V (L a)=a:=V_L a;rw[h1]at h2
   simpa[V,M.val]using h2.symm
 . intro h;subst h
   simp[L,M.aH]

theorem uX (a:Nat):(((D a).length:Int)==0)=decide (a=0):=by
 rw[Bool.eq_iff_iff];simp only[beq_iff_eq,decide_eq_true_eq]
 constructor
 . intro h;have h1:D a=[]:=List.eq_nil_of_length_eq_zero (by omega);have h2:X (D a)=a:=X_D a;rw[h1]at h2
   simpa[X,M.val]using h2.symm
 . intro h;subst h
   simp[D,M.aH]

theorem aE (a j K:Nat)(h:a<2^j)(hj:j<=32*K):(D a).length<=K:=by
 refine M.len_of_lt (B:=4294967296) (by omega) _ _ ?_;rw[show(4294967296:Nat)=2^32 by rfl,<-Nat.pow_mul];exact Nat.lt_of_lt_of_le h (Nat.pow_le_pow_right (by omega) hj)

theorem cM (N p A K:Nat)(hn:(L N).length<=A)(hp:p<=64*K):(L (N*2^p)).length<=A+K:=by
 have h1:=sZ N A hn
 have h2:2^p<=18446744073709551616^K:=by
  rw[show(18446744073709551616:Nat)=2^64 by rfl,<-Nat.pow_mul];exact Nat.pow_le_pow_right (by omega) (by omega)
 have h3:N*2^p<18446744073709551616^(A+K):=by
  rw[Nat.pow_add];exact Nat.lt_of_le_of_lt (Nat.mul_le_mul_left _ h2) (Nat.mul_lt_mul_of_pos_right h1 (Nat.pow_pos (by omega)))
 exact M.len_of_lt (B:=18446744073709551616) (by omega) _ _ h3

def Rb (v:World)(g:Nat)(e0 e1 e2 e3 e4:Int)(e5:Bool)(a:Option Addr)(n c:Nat)(b:Option Addr)(m d:Nat)(Z:Nat)(q:Int):Prop:=
 Cls v g #[.int .i64 e0,.int .i64 e1,.int .i64 e2,.int .i64 e3,.int .i64 e4,.bool e5,.slice a n c,.slice b m d,.int .u64 (M.hiN Z:Int),.int .u64 (M.loN Z:Int),.int .i64 q] 171

theorem Rb.below {v v':World}{g:Nat}{e0 e1 e2 e3 e4:Int}{e5:Bool}{a b:Option Addr}{n c m d Z:Nat}{q:Int}(h:Rb v g e0 e1 e2 e3 e4 e5 a n c b m d Z q)(hb:Below v.heap.size v v'):Rb v' g e0 e1 e2 e3 e4 e5 a n c b m d Z q:=Cls.below h hb

theorem JS (a b:Nat):decide (aY (a:Int) (b:Int)<0)=decide (a<b):=by
 unfold aY;rw[Bool.eq_iff_iff];simp only[decide_eq_true_eq];split
 . omega
 . split<;>omega

theorem LI {w1 W v:World}{q:Nat}(h:Below w1.heap.size w1 W)(e:v=W.drewN q):Below w1.heap.size w1 v:=by
 subst e;exact⟨h.os,h.tape,h.output,h.size,h.block⟩

theorem mO (v:World)(q:Nat):Below v.heap.size v (v.drewN q):=⟨rfl,rfl,rfl,Nat.le_refl _,fun _ _=>rfl⟩

theorem K7 (g:Nat)(e0 e1 e2 e3 e4:Int)(e5:Bool)(a b:Option Addr)(c d N De Z:Nat)(q:Int)(w:World)(hB:Rb w g e0 e1 e2 e3 e4 e5 a (L N).length c b (L De).length d Z q)(ra:Rd w a (L N))(rb:Rd w b (L De))
 (bN bD:Nat)(hbN:bN<=90000)(hbD:bD<=90000)(kN:∀v:World,Rd v a (L N)->Calls Tryz.prog 165 #[.slice a (L N).length c] v fun e w'=>e=.returned (.int .i64 (bN:Int))/\w'=v)
 (kD:∀v:World,Rd v b (L De)->Calls Tryz.prog 165 #[.slice b (L De).length d] v fun e w'=>e=.returned (.int .i64 (bD:Int))/\w'=v)
 (t s1 s2:Int)(ht:t=(bN:Int)-bD)(hs1:max (-t) 0=s1)(hs2:max t 0=s2)(X Y:Nat)
 (kX:∀v:World,Rd v a (L N)->Calls Tryz.prog 116 #[.slice a (L N).length c,.int .i64 s1] v fun e w'=>Ret v w' e (L X))
 (kY:∀v:World,Rd v b (L De)->Calls Tryz.prog 116 #[.slice b (L De).length d,.int .i64 s2] v fun e w'=>Ret v w' e (L Y))
 (cz:Int)(kC:∀(v:World)(ao bo:Option Addr)(c d:Nat),Rd v ao (L X)->Rd v bo (L Y)->Calls Tryz.prog 149 #[.slice ao (L X).length c,.slice bo (L Y).length d] v fun e w'=>e=.returned (.int .i64 cz)/\∃q,w'=v.drewN q)
 (E:Int)(hE:E=if cz<0 then t-1 else t):
 Calls Tryz.prog 147 #[.pointer (some ⟨g,0,none⟩)] w fun e w'=>e=.returned (.int .i64 E)/\Below w.heap.size w w':=by
 have w1:IntKind.i64.wrap ((bN:Int)-(bD:Int))=t:=by rw[IntKind.wrap_i64];omega
 have w1':(bN:Int)-(bD:Int)=t:=by omega
 have w2:IntKind.i64.wrap (-t)= -t:=by rw[IntKind.wrap_i64];omega
 have w3:IntKind.i64.wrap (t-1)=t-1:=by rw[IntKind.wrap_i64];omega
 have w4:IntKind.i64.wrap t=t:=by rw[IntKind.wrap_i64];omega
 have HT:=hid ht;clear ht
 have hs1':(if-t<0 then 0 else-t)=s1:=by split<;>omega
 have hs2':(if t<0 then 0 else t)=s2:=by split<;>omega
 have HE:=hid hE;clear hE;have c6:=Cls.cell hB 6 rfl;have c7:=Cls.cell hB 7 rfl;go_enter Tryz.func147,Tryz.ntmps147;go_upto_region 1 with fail
 go_quiet((go_at_call 165;first|(with_reducible show Calls _ _ #[Value.slice a _ _] _ _;exact Calls.quiet_of_same (kN _ (Rd.drewN ra _)))|exact Calls.quiet_of_same (kD _ (Rd.drewN rb _))))
 replace hB:=hB.below (mO _ nq);replace ra:=ra.below (mO _ nq);replace rb:=rb.below (mO _ nq);have b0:=mO w nq;generalize w.drewN nq=v1 at*;clear c6 c7 kN kD w1 w1';go_upto_region 2 with fail
 go_cut[31] (fun z wx=>z=.bool (decide (cz<0))/\Below v1.heap.size v1 wx)
 case first=>
  have A0:Below v1.heap.size v1 v1.drew:=(Below.refl _ _).drew
  have KB:∀v,Below v1.heap.size v1 v->(fun v=>v.cell? ⟨g,6,none⟩=some (.slice a (L N).length c)/\v.cell? ⟨g,7,none⟩=some (.slice b (L De).length d)) v:=fun v hv=>⟨Cls.cell (hB.below hv) 6 rfl,Cls.cell (hB.below hv) 7 rfl⟩
  go_region_held3 (fun v=>v.cell? ⟨g,6,none⟩=some (.slice a (L N).length c)/\v.cell? ⟨g,7,none⟩=some (.slice b (L De).length d)) (first|with_reducible exact KB _ hb3|with_reducible exact KB _ hb2|with_reducible exact KB _ hb1|with_reducible exact KB _ A0)
   (first|(have hq:=hb2;clear hq;go_at_call 149;refine(kC _ _ _ _ _ r1 r2).mono ?_;rintro e u3 ⟨rfl,qq,hu3⟩;have hb3:=LI (w1:=v1) hb2 hu3;clear hu3)|(have hq:=hb1;clear hq;go_at_call 116;refine(kY _ (rb.below hb1)).mono ?_;rintro e u2 ⟨x2,k2,rfl,o2,hb0⟩;have hb2:=aK (w1:=v1) hb1 hb0;have r2:=Rd.own o2;replace r1:=r1.below hb0;clear hb0 o2)|(go_at_call 116;refine(kX _ (ra.below A0)).mono ?_;rintro e u1 ⟨x1,k1,rfl,o1,hb0⟩;have hb1:=aK (w1:=v1) A0 hb0;have r1:=Rd.own o1;clear hb0 o1))
  all_goals go_wp2_with fail
  all_goals go_meet
  all_goals exact⟨rfl,hb3⟩
 case rest=>
 obtain⟨rfl,hbx⟩:=hcut;replace b0:=b0.trans (hbx.mono b0.size);have HB0:=hid b0;clear b0 hbx hB ra rb kX kY kC hs1 hs2 hs1' hs2';have h:=HE.out
 by_cases hz:cz<0
 . rw[if_pos hz]at h;have hd:decide (cz<0)=true:=decide_eq_true hz;have H:=hid h;clear h;go_wp2_with fail;go_ret;exact⟨by rw[H.out];rfl,HB0.out⟩
 . rw[if_neg hz]at h;have hd:decide (cz<0)=false:=decide_eq_false hz;have H:=hid h;clear h;go_wp2_with fail;go_ret;exact⟨by rw[H.out];rfl,HB0.out⟩

end Go.Proofs.YtfdgkleoaehjaaaGreatDoor
namespace Go.Proofs.YtfdgkleoaehjaaaGreatDoor.M
set_option linter.unusedVariables false
set_option maxRecDepth 100000

theorem LL {q r u y1 y0 y C:Nat}(hy:y=y1*C+y0)(h:q*y1+r=u):q*y+C*r=u*C+q*y0:=by
 rw[hy,<-h,Nat.mul_add,Nat.add_mul,Nat.mul_assoc,Nat.mul_comm C r];omega

structure Kn (C u d y1 y0 y q r:Nat):Prop where
 sum:q*y1+r=u
 ge:(u*C+d)/y<=q
 le:q<=C+1

theorem Kn.first {C u d y1 y0 y:Nat}(hC:0<C)(hy:y=y1*C+y0)(hd:d<C)(hu:u<y)(h0:y0<C)(hn:C<=2*y1):Kn C u d y1 y0 y (u/y1) (u%y1):=by
 have hy1:0<y1:=by omega
 have hyp:0<y:=by omega
 refine⟨by rw[Nat.mul_comm];exact Nat.div_add_mod u y1,?_,?_⟩
 . rw[Nat.le_div_iff_mul_le hy1];have h1:=Nat.div_mul_le_self (u*C+d) y;generalize(u*C+d)/y=q at*;have h2:q*y1*C<=q*y:=by rw[hy,Nat.mul_add,Nat.mul_assoc];omega
   have h3:q*y1*C<(u+1)*C:=by rw[Nat.add_mul];omega
   have:=Nat.lt_of_mul_lt_mul_right h3;omega
 . have h1:=Nat.div_mul_le_self u y1;rcases Nat.lt_or_ge (C+1) (u/y1)with h|h
   . have h2:(C+2)*y1<=u/y1*y1:=Nat.mul_le_mul_right _ h;rw[Nat.add_mul,Nat.mul_comm C y1]at h2;omega
   . exact h

theorem Kn.stop {C u d y1 y0 y q r:Nat}(h:Kn C u d y1 y0 y q r)(hy:y=y1*C+y0)(hyp:0<y)(ht:q*y0<=C*r+d):q=(u*C+d)/y:=by
 have e:=LL hy h.sum;refine Nat.le_antisymm ?_ h.ge;rw[Nat.le_div_iff_mul_le hyp];omega

theorem Kn.down {C u d y1 y0 y q r:Nat}(h:Kn C u d y1 y0 y q r)(hy:y=y1*C+y0)(hyp:0<y)(hu:u<y)(hd:d<C)(ht:C<=q\/C*r+d<q*y0):1<=q/\Kn C u d y1 y0 y (q-1) (r+y1):=by
 have e:=LL hy h.sum
 have hlt:(u*C+d)/y<q:=by
  rcases ht with ht|ht
  . have:(u*C+d)/y<C:=by
     rw[Nat.div_lt_iff_lt_mul hyp];have h1:(u+1)*C<=y*C:=Nat.mul_le_mul_right _ hu;rw[Nat.add_mul]at h1;rw[Nat.mul_comm C y];omega
    exact Nat.lt_of_lt_of_le this ht
  . rw[Nat.div_lt_iff_lt_mul hyp];omega
 have hq1:1<=q:=Nat.lt_of_le_of_lt (Nat.zero_le _) hlt;refine⟨hq1,?_,Nat.le_sub_one_of_lt hlt,by have:=h.le;omega⟩;have:=h.sum;obtain⟨m,rfl⟩:∃m,q=m+1:=⟨q-1,by omega⟩;rw[Nat.add_sub_cancel];rw[Nat.add_mul,Nat.one_mul]at this;omega

theorem Kn.wide {C u d y1 y0 y q r:Nat}(h:Kn C u d y1 y0 y q r)(hy:y=y1*C+y0)(hyp:0<y)(h0:y0<C)(hq:q<=C)(hr:C<=r):q=(u*C+d)/y:=by
 refine h.stop hy hyp ?_;have h1:q*y0<=C*y0:=Nat.mul_le_mul_right _ hq;have h2:C*y0<=C*r:=Nat.mul_le_mul_left _ (by omega);omega

theorem IA {C u d1 d0 y q1 u2 q0:Nat}(hyp:0<y)(h1:q1=(u*C+d1)/y)(h2:u2=(u*C+d1)%y)(h0:q0=(u2*C+d0)/y):
 q1*C+q0=(u*(C*C)+(d1*C+d0))/y/\(u2*C+d0)%y=(u*(C*C)+(d1*C+d0))%y:=by
 have e1:=Nat.div_add_mod (u*C+d1) y;rw[<-h1,<-h2]at e1
 have e:u*(C*C)+(d1*C+d0)=u2*C+d0+y*(q1*C):=by
  have h3:(y*q1+u2)*C=(u*C+d1)*C:=by rw[e1]
  rw[Nat.add_mul,Nat.add_mul,Nat.mul_assoc,Nat.mul_assoc]at h3;omega
 constructor
 . rw[e,Nat.add_mul_div_left _ _ hyp,<-h0];omega
 . rw[e,Nat.add_mul_mod_self_left]

end Go.Proofs.YtfdgkleoaehjaaaGreatDoor.M
namespace Go.Proofs.YtfdgkleoaehjaaaGreatDoor
open Go.RowKit
set_option linter.unusedVariables false
set_option maxRecDepth 100000

theorem LH (x:Nat)(w:World)(h:x<18446744073709551616)(s:Nat)(hs:s=64-aB x):
 Calls Tryz.prog 167 #[.int .u64 (x:Int)] w fun e w'=>e=.returned (.int .i64 (s:Int))/\w'=w:=by
 obtain⟨b,eb⟩:∃b:Nat,b=aB x:=⟨_,rfl⟩;have hb:b<=64:=by rw[eb];exact bX x 64 h
 have hsI:(64:Int)-(b:Int)=(s:Int):=by rw[hs,<-eb];omega
 have EB:=hid eb;clear eb hs;go_enter Tryz.func167,Tryz.ntmps167;go_wp2_with fail;refine(p9 x _ h b EB.out).mono ?_;rintro e w1 ⟨rfl,rfl⟩;go_wp2_with fail;go_ret;exact⟨rfl,rfl⟩

theorem qZ (y s:Nat)(hy:0<y)(hyb:y<18446744073709551616)(hs:s=64-aB y):s<64/\y*2^s<18446744073709551616/\9223372036854775808<=y*2^s:=by
 have h1:=dD y;have h2:=eF y hy;have h3:=dJ y hy;have h4:aB y<=64:=bX y 64 hyb;refine⟨by omega,?_,?_⟩
 . have:y*2^s<2^aB y*2^s:=Nat.mul_lt_mul_of_pos_right h1 (Nat.pow_pos (by omega));rw[<-Nat.pow_add,show aB y+s=64 by omega]at this;exact this
 . have:2^(aB y-1)*2^s<=y*2^s:=Nat.mul_le_mul_right _ h2;rw[<-Nat.pow_add,show aB y-1+s=63 by omega]at this;exact this

theorem FV (hi lo s y:Nat)(hs:s<64)(hlo:lo<18446744073709551616)(hlt:hi<y)(hyb:y*2^s<18446744073709551616):
 bits BinOp.or IntKind.u64 (IntKind.u64.wrap ((hi:Int)*2^s)) ((lo:Int)/2^(64-s))=((hi*2^s+lo/2^(64-s):Nat):Int)/\hi*2^s+lo/2^(64-s)<y*2^s/\
  (hi*2^s+lo/2^(64-s))*18446744073709551616+lo*2^s%18446744073709551616=(hi*18446744073709551616+lo)*2^s:=by
 have hKP:2^(64-s)*2^s=18446744073709551616:=M.fG s 64 (by omega);have h1:lo/2^(64-s)<2^s:=Nat.div_lt_of_lt_mul (by omega);have h2:(hi+1)*2^s<=y*2^s:=Nat.mul_le_mul_right _ hlt;rw[Nat.add_mul,Nat.one_mul]at h2;have hp0:0<2^s:=Nat.pow_pos (by omega);refine⟨?_,by omega,?_⟩
 . have e1:IntKind.u64.wrap ((hi:Int)*2^s)=((hi*2^s:Nat):Int):=by
    rw[fK,<-Int.natCast_mul,iH,Nat.mod_eq_of_lt (by omega)]
   rw[e1,fM,cT _ _ (by omega) (by omega),kG _ hi s h1,Nat.add_comm]
 . have e:lo*2^s%18446744073709551616+18446744073709551616*(lo/2^(64-s))=lo*2^s:=by
    have h5:lo*2^s/18446744073709551616=lo/2^(64-s):=by
     rw[<-hKP,Nat.mul_div_mul_right _ _ (Nat.pow_pos (by omega))]
    have:=Nat.mod_add_div (lo*2^s) 18446744073709551616;rw[h5]at this;exact this
   rw[Nat.add_mul,Nat.add_mul,Nat.mul_right_comm hi];omega

theorem uW (u d q y p1 p2 p3 r:Nat)(hy:y<18446744073709551616)(hyp:0<y)(hq:q=(u*4294967296+d)/y)(h1:p1=u*4294967296%18446744073709551616)(h2:p2=(p1+d)%18446744073709551616)(h3:p3=q*y%18446744073709551616)(hr:r=(u*4294967296+d)%y):
 r=(p2+18446744073709551616-p3)%18446744073709551616:=by
 have e:=Nat.div_add_mod (u*4294967296+d) y;rw[<-hq,<-hr,Nat.mul_comm]at e;have hrl:r<y:=by rw[hr];exact Nat.mod_lt _ hyp
 generalize q*y=t at*;omega

theorem mD (x y p:Nat)(hp:p=x*y)(hb:p<18446744073709551616):IntKind.u64.wrap ((x:Int)*(y:Int))=(p:Int):=by
 have:=iH p;rw[Nat.mod_eq_of_lt hb]at this;rw[<-this,hp];congr 1

theorem vN (x y p:Nat)(hp:p=x+y)(hb:p<18446744073709551616):IntKind.u64.wrap ((x:Int)+(y:Int))=(p:Int):=
 fO x y p (by omega)

theorem M.mul32 (x y z c:Nat)(hx:x<4294967296)(hy:y<4294967296)(hz:z<4294967296)(hc:c<4294967296):
 ∃p p2 s:Nat,p=x*y/\p<18446744073709551616/\p2=p+z/\p2<18446744073709551616/\s=p2+c/\s<18446744073709551616/\s/4294967296<4294967296/\s%4294967296+4294967296*(s/4294967296)=z+y*x+c:=by
 have hb:x*y<=4294967295*4294967295:=Nat.mul_le_mul (by omega) (by omega);refine⟨_,_,_,rfl,by omega,rfl,by omega,rfl,by omega,by omega,?_⟩;rw[Nat.mul_comm y x];generalize x*y=q at*;omega

theorem M.inner {V V' V0 T c c' Pk Pj B x y z o:Nat}(h:V+c*(Pk*Pj)=V0+(x*Pk)*T)(hv:V'+Pk*Pj*z=V+Pk*Pj*o)(hs:o+B*c'=z+y*x+c):V'+c'*(Pk*Pj*B)=V0+(x*Pk)*(T+Pj*y):=by
 have e2:(x*Pk)*(Pj*y)=Pk*Pj*(y*x):=by
  simp only[Nat.mul_comm,Nat.mul_left_comm]
 rw[Nat.mul_add,e2];generalize Pk*Pj=P at*;have e:P*(o+B*c')=P*(z+y*x+c):=by rw[hs]
 simp only[Nat.mul_add]at e;rw[Nat.mul_comm c' (P*B),Nat.mul_assoc];rw[Nat.mul_comm c P]at h;omega

theorem cI (ao bo:Option Addr)(n m c d:Nat)(a b:Nat)(w:World)(hl:(D a).length=n)(hm:(D b).length=m)(hn:n<=1048576)(hn2:m<=1048576)(hr:Rd w ao (D a))(hr2:Rd w bo (D b)):
 Calls Tryz.prog 22 #[.slice ao n c,.slice bo m d] w fun e w'=>Ret w w' e (D (a*b)):=by
 obtain⟨i0,hi,hz0,hz1,hz2⟩:=info_parts Tryz.infoU
 have hmk:=fun(wx:World)=>run_make (P:=Tryz.prog) wx 56 25 i0 (.int .u64 0) Tryz.underlying56 hi hz0 .i64 .i64 ((n+m+1:Nat):Int) ((n+m+1:Nat):Int) (by omega) (Int.le_refl _) (by rw[hz2];omega) (by omega)
 have es:((n+m+1:Nat):Int)=(n:Int)+(m:Int)+1:=by omega
 rw[es]at hmk;have et:((n:Int)+(m:Int)+1).toNat=n+m+1:=by omega
 rw[et]at hmk;clear es et;have fa:=iD a;have fb:=iD b;go_enter Tryz.func22,Tryz.ntmps22;go_wp2_with fail
 go_loopw [6] (fun i wr=>∃(k:Nat)(cur:List Nat),k<=n/\i=.int .i64 k/\Blk wr w.heap.size cur/\cur.length=n+m+1/\F32 cur/\(∀j,m+k<=j->cur.getD j 0=0)/\X cur=b*X ((D a).take k)/\Below w.heap.size w wr) (fun i _=>n-(intOf i).toNat)
 case atStart=>
  refine⟨0,List.replicate (n+m+1) 0,by omega,rfl,fL w (n+m+1),by simp,fun x hx=>by simp at hx;omega,fun j _=>?_,?_,(Below.refl _ _).alloc (Nat.le_refl _) _⟩
  . rw[List.getD_eq_getElem?_getD,List.getElem?_replicate];split<;>rfl
  . unfold X;rw[M.dL];simp[M.val]
 case round=>
  obtain⟨k,cur,hk,rfl,hBk,hcl,hcf,hz,hv,hbl⟩:=hrel;clear hmk;have HZ:=hid hz;clear hz;have HV:=hid hv;clear hv;have HCL:=hid hcl;clear hcl
  by_cases hlt:k<n
  . have hx1:=fa.get k;obtain⟨x,hxx⟩:∃x:Nat,x=(D a).getD k 0:=⟨_,rfl⟩;rw[<-hxx]at hx1;have HX:=hid hxx;clear hxx;have hlt':(k:Int)<(n:Int):=by omega
    obtain⟨wo,hwo⟩:∃wo:World,wo=wr:=⟨_,rfl⟩;rw[<-hwo]at hBk hbl|-;clear hwo;have HBk:=hid hBk;clear hBk;have HBl:=hid hbl;clear hbl;go_wp2_with fail
    go_loopw [7,8,9] (fun cy i s9 wr=>∃(j:Nat)(cu:List Nat)(cc:Nat),j<=m/\i=.int .i64 j/\cy=.int .u64 cc/\cc<4294967296/\Blk wr w.heap.size cu/\cu.length=n+m+1/\F32 cu/\(∀i,m+k<=i->cu.getD i 0=0)/\X cu+cc*4294967296^(k+j)=X cur+(x*4294967296^k)*X ((D b).take j)/\Below w.heap.size w wr) (fun _ i _ _=>m-(intOf i).toNat)
    case atStart=>exact⟨0,cur,0,by omega,rfl,rfl,by omega,HBk.out,HCL.out,hcf,HZ.out,by simp[X,M.val],HBl.out⟩
    case round=>
     obtain⟨j,cu,cc,hj,rfl,rfl,hcc,hBu,hul,huf,huz,huv,hub⟩:=hrel;have HUZ:=hid huz;clear huz;have HUV:=hid huv;clear huv;have HUL:=hid hul;clear hul
     by_cases hlt2:j<m
     . obtain⟨b1,o1,hao,hcA⟩:=(hr.below hub) (by omega);have hckA:=hcA k (by omega);rw[<-HX.out]at hckA;clear hcA;obtain⟨b2,o2,hbo,hcB⟩:=(hr2.below hub) (by omega);have hckB:=hcB j (by omega);clear hcB;have hy1:=fb.get j;obtain⟨y,hyy⟩:∃y:Nat,y=(D b).getD j 0:=⟨_,rfl⟩;rw[<-hyy]at hckB hy1;have HY:=hid hyy;clear hyy;have hcz:=hBu.cell (k+j) (by have:=HUL.out;omega);have hfz:=hBu.frozen (k+j);have hz1:=huf.get (k+j);obtain⟨z,hzz⟩:∃z:Nat,z=cu.getD (k+j) 0:=⟨_,rfl⟩;rw[<-hzz]at hcz hz1;have HZZ:=hid hzz;clear hzz;obtain⟨p,p2,s,ep,bp,ep2,bp2,es,bs,bs2,hs⟩:=M.mul32 x y z cc hx1 hy1 hz1 hcc;have w1:=mD x y p ep bp;have w2:=vN p z p2 ep2 bp2;have w3:=vN p2 cc s es bs
       have hlow:bits BinOp.and IntKind.u64 (s:Int) 4294967295=((s%4294967296:Nat):Int):=by
        rw[and_low32 _ (by omega) (by omega)];omega
       have hslo:s%4294967296<4294967296:=by omega
       obtain⟨so,eso⟩:∃so:Nat,so=s%4294967296:=⟨_,rfl⟩;rw[<-eso]at hlow hs hslo;have E1:=hid hs;have E2:=hid bs2;have E3:=hid hslo;have E4:=hid eso;clear hs bs2 hslo eso ep bp ep2 bp2 es bs;have HBu:=hid hBu;clear hBu;have hltj:(j:Int)<(m:Int):=by omega
       have hltk:(k:Int)+(j:Int)<((n+m+1:Nat):Int):=by omega
       go_wp2_with fail
       go_quiet(fail)
       go_wp2_with fail;go_roundw
       case rel=>
        have R:∃(j1:Nat)(cu1:List Nat)(cc1:Nat),j1<=m/\Value.int .i64 ((j:Int)+1)=.int .i64 j1/\Value.int .u64 ((s:Int)/4294967296)=.int .u64 cc1/\cc1<4294967296/\Blk ((wr.setCell ⟨w.heap.size,k+j,none⟩ (.int .u64 (so:Int))).drewN nq) w.heap.size cu1/\cu1.length=n+m+1/\F32 cu1/\(∀i,m+k<=i->cu1.getD i 0=0)/\X cu1+cc1*4294967296^(k+j1)=X cur+(x*4294967296^k)*X ((D b).take j1)/\Below w.heap.size w ((wr.setCell ⟨w.heap.size,k+j,none⟩ (.int .u64 (so:Int))).drewN nq):=by
         refine⟨j+1,cu.set (k+j) so,s/4294967296,by omega,by go_num,by go_num,E2.out,(HBu.out.set _ _ _ rfl).drewN _,by rw[List.length_set];exact HUL.out,?_,?_,?_,below_drewN (hub.setCell (Nat.le_refl _) _) _⟩
         . intro v hv;rcases List.mem_or_eq_of_mem_set hv with hv|rfl
           . exact huf v hv
           . exact E3.out
         . intro i hi;rw[M.bO _ _ _ _ (by omega)];exact HUZ.out i hi
         . have h1:=M.jU 4294967296 (k+j) cu so (by have:=HUL.out;omega);rw[<-HZZ.out]at h1;have h2:=HUV.out;unfold X at*;rw[M.aJ,<-HY.out,show k+(j+1)=k+j+1 by omega,Nat.pow_succ];rw[Nat.pow_add]at h1 h2|-;exact M.inner h2 h1 E1.out
        first|exact R|((repeat apply Exists.intro);exact⟨R,rfl⟩)|((repeat apply Exists.intro);exact⟨R,by rw[hao,hbo]⟩)
       case measure=>simp[intOf];omega
     . have e:j=m:=by omega
       subst e;have hcz:=hBu.cell (k+j) (by have:=HUL.out;omega);have hfz:=hBu.frozen (k+j);have hz0:=HUZ.out (k+j) (by omega);rw[hz0]at hcz;have HZ0:=hid hz0;clear hz0;have HBu:=hid hBu;clear hBu;have hltk:(k:Int)+(j:Int)<((n+j+1:Nat):Int):=by omega
       have hltj:¬(j:Int)<(j:Int):=by omega
       go_wp2_with fail;go_roundw
       case rel=>
        have R:∃(k1:Nat)(cur1:List Nat),k1<=n/\Value.int .i64 ((k:Int)+1)=.int .i64 k1/\Blk (wr.setCell ⟨w.heap.size,k+j,none⟩ (.int .u64 (cc:Int))) w.heap.size cur1/\cur1.length=n+j+1/\F32 cur1/\(∀i,j+k1<=i->cur1.getD i 0=0)/\X cur1=b*X ((D a).take k1)/\Below w.heap.size w (wr.setCell ⟨w.heap.size,k+j,none⟩ (.int .u64 (cc:Int))):=by
         refine⟨k+1,cu.set (k+j) cc,by omega,by go_num,HBu.out.set _ _ _ rfl,by rw[List.length_set];exact HUL.out,?_,?_,?_,hub.setCell (Nat.le_refl _) _⟩
         . intro v hv;rcases List.mem_or_eq_of_mem_set hv with hv|rfl
           . exact huf v hv
           . exact hcc
         . intro i hi;rw[M.bO _ _ _ _ (by omega)];exact HUZ.out i (by omega)
         . have h1:=M.jU 4294967296 (k+j) cu cc (by have:=HUL.out;omega);rw[HZ0.out,Nat.mul_zero,Nat.add_zero]at h1;have h2:=HUV.out;rw[List.take_of_length_le (by omega),X_D]at h2;have h3:=HV.out;unfold X at*;rw[M.aJ,<-HX.out,h1,Nat.mul_add,<-h3,Nat.mul_comm (4294967296^(k+j)) cc,h2];rw[Nat.mul_comm x (4294967296^k),Nat.mul_comm b]
        first|exact R|((repeat apply Exists.intro);exact⟨R,rfl⟩)
       case measure=>simp[intOf];omega
  . have e:k=n:=by omega
    subst e;go_wp2_with fail
    have hfin:M.val 4294967296 cur=a*b:=by
     have:=HV.out;rw[List.take_of_length_le (by omega),X_D,Nat.mul_comm]at this;exact this
    refine(bZ 4294967296 (by omega) _ (k+m+1) (k+m+1) cur _ HCL.out (Nat.le_refl _) (by omega) hcf hBk.rd0).mono ?_;rw[hfin];rintro e w3 ⟨ao',cap',rfl,ho',hb'⟩;go_wp2_with fail;go_ret;exact⟨ao',cap',rfl,aM ho' hbl.size,hbl.trans (hb'.mono hbl.size)⟩

end Go.Proofs.YtfdgkleoaehjaaaGreatDoor
