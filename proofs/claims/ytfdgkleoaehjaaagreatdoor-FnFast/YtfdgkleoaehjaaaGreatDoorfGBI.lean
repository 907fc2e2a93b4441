import Derived.Test.YtfdgkleoaehjaaaGreatDoorfWq
import Derived.Test.YtfdgkleoaehjaaaGreatDoorfMd
import Derived.Test.YtfdgkleoaehjaaaGreatDoorfSw
set_option maxHeartbeats 8000000
set_option maxRecDepth 100000
namespace Go.Proofs.YtfdgkleoaehjaaaGreatDoor
set_option linter.unusedVariables false
set_option maxRecDepth 100000

theorem AE {x u:Nat}(hx:x<2^128):x*2^u<2^(128+u):=by
 rw[Nat.pow_add];exact Nat.mul_lt_mul_of_pos_right hx (Nat.pow_pos (by omega))

def PK (F:M.Fm)(t:M.Pt):Nat:=if t.s=F.lead/\F.qmin<t.q then 4*t.s-1 else 4*t.s-2

structure Fin (F:M.Fm)(t:M.Pt):Prop where
 s1:0<t.s
 s2:t.s<2*F.lead
 q1:F.qmin<=t.q
 q2:t.q+F.p-1<=F.emax
 q3:-16600<=t.q
 q4:t.q<=16400
 s3:t.s<2^114
 s4:t.c=2->t.s<F.lead

theorem GQ {F:M.Fm}(h:F.Ok){t:M.Pt}(hp:F.Proper t)(hc:t.c=2\/t.c=3):Fin F t:=by
 have p1:=h.p1;have p2:=h.p2;have lp:=h.leadPos;have tp:=h.top2;have hq:F.qmin=2-(F.emax:Int)-(F.p:Int):=rfl;have l2:F.lead<=2^112:=Nat.pow_le_pow_right (by omega) (by omega);have:=hp;unfold M.Fm.Proper at this
 constructor<;>omega

namespace M

theorem Wd.Best.same {t:Wd}{r s:Nat}(a:t.Best r)(b:t.Best s):r=s:=by
 rcases Nat.lt_trichotomy r s with h|h|h
 . exact absurd b.ok (a.no s h b.lt)
 . exact h
 . exact absurd a.ok (b.no r h a.lt)

def Wd.asks (t:Wd)(z:Nat):Bool:=decide (t.least<=t.T t.X/10^z*10^z)||decide (t.T t.X/10^z*10^z+10^z<=t.most)

theorem Wd.Ok.e_le {t:Wd}(h:t.Ok):-7001<=t.e/\t.e<=7039/\ -7000<=t.X/\t.X<=7000:=by
 have hN:=h.N_le;have q1:=h.q1;have q2:=h.q2;have:=OC (t.q-2) (by omega) (by omega)
 show-7001<=t.X+(t.N:Int)-1/\t.X+(t.N:Int)-1<=7039/\ -7000<=t.X/\t.X<=7000
 simp only[Wd.X];omega

end M
open Go.RowKit

def RF (F:M.Fm)(T:M.Pt):M.Wd:=⟨T.s,PK F T,T.q⟩

theorem MX {F:M.Fm}(h:F.Ok){T:M.Pt}(hf:Fin F T):(RF F T).Ok:=by
 have p1:=h.p1;have p2:=h.p2;have tp:=h.top2;have hq:F.qmin=2-(F.emax:Int)-(F.p:Int):=rfl;have l2:F.lead<=2^112:=Nat.pow_le_pow_right (by omega) (by omega);obtain⟨s1,s2,q1,q2,q3,q4,s3,s4⟩:=hf;refine⟨s1,?_,?_,?_,?_⟩
 . show T.s<2^113
   omega
 . show PK F T<4*T.s
   unfold PK;split<;>omega
 . show-16598<=T.q
   omega
 . show T.q<=16600
   omega

theorem PF (a j:Nat)(x:Int)(h:a<2^j)(hj:j<=17200)(hx:-7100<=x):(D (M.un a x)).length<=1500:=by
 unfold M.un;have l1:=aE a j 540 h (by omega);have l2:=aE (10^(-x).toNat) (4*(-x).toNat+1) 900 (oP _) (by omega);have:=cC _ _ 540 900 l1 l2;omega

theorem OY (a j:Nat)(x:Int)(h:a<2^j)(hj:j<=17200)(hx:x<=7100):(D (M.ud a x)).length<=1500:=by
 unfold M.ud;have l1:=aE a j 540 h (by omega);have l2:=aE (10^x.toNat) (4*x.toNat+1) 900 (oP _) (by omega);have:=cC _ _ 540 900 l1 l2;omega

theorem E9 (f:Nat)(hf:f<4)(X:Nat)(hX:X<2^128)(w:World)(T:M.Pt)(hT:T=(M.fm f).upk X)(hc:T.c=2\/T.c=3)(hpr:(M.fm f).Proper T):
 Calls Tryz.prog 117 #[.int .i64 (f:Int),.agg #[.int .u64 (M.hiN X:Int),.int .u64 (M.loN X:Int)]] w fun e w'=>∃ds x n,((ds=[]/\x=0)\/(1<=ds.length/\ds.length<=100))/\ -9000<(ds.length:Int)+x/\(ds.length:Int)+x<9000/\ShR w w' e ds x n 0:=by
 have h:=M.iM f
 have kU:=fun v:World=>iO f hf X hX v
 rw[<-hT]at kU;have hfi:=GQ h hpr hc;have hok:=MX h hfi;obtain⟨t,ht⟩:∃t,t=RF (M.fm f) T:=⟨_,rfl⟩;rw[<-ht]at hok
 have kE:=fun v:World=>bK f hf v
 have eM:t.mid=T.s*2^2*2^(T.q-2).toNat:=by rw[ht];show 4*T.s*_=_;rw[show 4*T.s=T.s*2^2 by omega];rfl
 have eC:t.den=2^(2-T.q).toNat:=by rw[ht];rfl
 obtain⟨s1,s2,q1,q2,q3,q4,s3,s4⟩:=hfi;have p1:=h.p1;have p2:=h.p2;have em:=h.emax_le
 have kP:=fun v:World=>PH (f:Int) T (M.fm f) t.den v (by omega) (by omega) (by omega) (by omega) (by omega) p2 (by omega) eC kE
 have hM:t.mid<2^(128+(T.q-2).toNat):=by rw[eM];exact AE (by omega)
 have l3:t.den<2^(128+(2-T.q).toNat):=by rw[eC];exact Nat.pow_lt_pow_right (by omega) (by omega)
 obtain⟨e1,e2,-,-⟩:=hok.e_le;have lm:=PF t.mid _ (t.e-40+1) hM (by omega) (by omega);have lu:=OY t.den _ (t.e-40+1) l3 (by omega) (by omega);have lC:=aE _ _ 540 l3 (by omega);have lM:=aE _ _ 540 hM (by omega);have l4s:=aE (T.s*2^2) 128 540 (by omega) (by omega);have lS:=aE T.s 128 540 (by omega) (by omega);have l6:=bX _ _ hM;have l7:=bX _ _ l3
 exact JZ (f:Int) X T (M.fm f) t.den t.mid w (by omega) hc (by omega) (by omega) (by omega) eM hok.den_pos (by omega) (by omega) (by omega) (by omega) (by omega) (by omega) t.e (by omega) (by omega) (by omega) (by omega) (fun y=>hok.ten y) kE kU kP

theorem CZ {w v:World}(h:Below w.heap.size w v){g:Nat}(hg:w.heap.size<=g)(a b c d:Value):Below w.heap.size w ((((v.setCell ⟨g,0,none⟩ a).setCell ⟨g,1,none⟩ b).setCell ⟨g,2,none⟩ c).setCell ⟨g,3,none⟩ d):=
 (((h.setCell (p:=⟨g,0,none⟩) hg _).setCell (p:=⟨g,1,none⟩) hg _).setCell (p:=⟨g,2,none⟩) hg _).setCell (p:=⟨g,3,none⟩) hg _

theorem s7 (f:Int)(X:Nat)(T:M.Pt)(F:M.Fm)(w:World)(hp0:F.p≠0)(ng:Bool)(k:Int)(hc:(T.c=0/\ng=false/\k=3)\/((T.c=1\/T.c=4\/T.c=5)/\ng=T.n/\k=0))
 (kE:∀v:World,Calls Tryz.prog 9 #[.int .i64 f] v fun e w'=>e=.returned (dv F)/\Below v.heap.size v w')
 (kU:∀v:World,Calls Tryz.prog 67 #[.int .i64 f,.agg #[.int .u64 (M.hiN X:Int),.int .u64 (M.loN X:Int)]] v fun e w'=>e=.returned (pv T)/\Below v.heap.size v w'):
 Calls Tryz.prog 117 #[.int .i64 f,.agg #[.int .u64 (M.hiN X:Int),.int .u64 (M.loN X:Int)]] w fun e w'=>ShR w w' e [] 0 ng k:=by
 obtain⟨tc,tn,ts,tq⟩:=T;simp only[dv,pv]at*;have hp1:¬(F.p:Int)=0:=by omega
 have HC:=hid hc;clear hc;have fd:=jQ;obtain⟨cw,cr,b0⟩:=Cls.new2 w #[.int .u64 (M.hiN X:Int),.int .u64 (M.loN X:Int)] #[.slice none 0 0,.int .i64 0,.bool false,.int .i64 0] 27 155;go_enter Tryz.func117,Tryz.ntmps117;go_wp2_with fail;refine(kE _).mono ?_;rintro e v1 ⟨rfl,hb⟩;replace cw:=cw.below hb;replace cr:=cr.below hb;replace b0:=b0.trans (hb.mono b0.size);clear hb;have x0:=cw.cell 0 rfl;have x1:=cw.cell 1 rfl;go_wp2_with fail;refine(kU _).mono ?_;rintro e v2 ⟨rfl,hb⟩;obtain⟨v3,ev3,cp,hb2,-⟩:=eE v2 #[.int .i64 tc,.bool tn,.int .u64 (M.hiN ts:Int),.int .u64 (M.loN ts:Int),.int .i64 tq] 67;replace ev3:=hid ev3;replace hb:=hb.trans (hb2.mono hb.size);replace cr:=cr.below hb;replace b0:=b0.trans (hb.mono b0.size);clear hb hb2 cw x0 x1;go_upto_region 4 with fail;rw[ev3.out];clear ev3;generalize v2.heap.size=gp at*;have p0:=cp.cell 0 rfl;have p1:=cp.cell 1 rfl;have p2:=cp.cell 2 rfl;have p3:=cp.cell 3 rfl;have p4:=cp.cell 4 rfl;have r0:=cr.cell 0 rfl;have r1:=cr.cell 1 rfl;have r2:=cr.cell 2 rfl;have r3:=cr.cell 3 rfl;have z0:=cr.frozen 0;have z1:=cr.frozen 1;have z2:=cr.frozen 2;have z3:=cr.frozen 3;have lr:w.heap.size+1<v3.heap.size:=cr.lt;rcases HC.out with⟨hc,rfl,rfl⟩|⟨hc|hc|hc,rfl,rfl⟩
 all_goals(
  clear HC;go_wp2_with fail
  exact bodyPost_ret (v:=.agg #[.slice none 0 0,.int .i64 0,.bool _,.int .i64 _]) (by simp[results,Tryz.results117,go_sem,r0,r1,r2,r3]) rfl ⟨none,0,rfl,OwnV.nil _ _,CZ b0 (by omega) _ _ _ _⟩)

theorem ED (f:Int)(hf:f<0\/4<=f)(X:Nat)(w:World):
 Calls Tryz.prog 117 #[.int .i64 f,.agg #[.int .u64 (M.hiN X:Int),.int .u64 (M.loN X:Int)]] w fun e w'=>ShR w w' e [] 0 false 4:=by
 have kE:=fun v:World=>iR f v hf
 have fd:=jQ;obtain⟨cw,cr,b0⟩:=Cls.new2 w #[.int .u64 (M.hiN X:Int),.int .u64 (M.loN X:Int)] #[.slice none 0 0,.int .i64 0,.bool false,.int .i64 0] 27 155;go_enter Tryz.func117,Tryz.ntmps117;go_wp2_with fail;refine(kE _).mono ?_;rintro e v1 ⟨rfl,hb⟩;replace cr:=cr.below hb;replace b0:=b0.trans (hb.mono b0.size);clear hb cw;have r0:=cr.cell 0 rfl;have r1:=cr.cell 1 rfl;have r2:=cr.cell 2 rfl;have r3:=cr.cell 3 rfl;have z0:=cr.frozen 0;have z1:=cr.frozen 1;have z2:=cr.frozen 2;have z3:=cr.frozen 3;have lr:w.heap.size+1<v1.heap.size:=cr.lt;go_wp2_with fail;exact bodyPost_ret (v:=.agg #[.slice none 0 0,.int .i64 0,.bool false,.int .i64 4]) (by simp[results,Tryz.results117,go_sem,r0,r1,r2,r3]) rfl ⟨none,0,rfl,OwnV.nil _ _,CZ b0 (by omega) _ _ _ _⟩

theorem M4 {F:M.Fm}(h:F.Ok)(t:M.Pt):wY F t<2^128:=by
 unfold wY
 by_cases hp:F.Proper t
 . rw[if_pos hp];exact Nat.lt_of_lt_of_le (h.upk_pk t hp).2 h.width.2.2
 . rw[if_neg hp];exact Nat.pow_pos (by omega)

theorem xI (f:Int){w0 v:World}{ao:Option Addr}{n c:Nat}{bs:List Nat}(hl:bs.length=n)(hn:n<=1048576)(hb:RdB w0 ao bs)(h:Rs w0 v ao n c):
 Calls Tryz.prog 88 #[.pointer (some ⟨w0.heap.size,0,none⟩),.int .i64 f] v fun e v'=>∃X:Nat,X<2^128/\e=.returned (.agg #[.int .u64 (M.hiN X:Int),.int .u64 (M.loN X:Int)])/\Rs w0 v' ao n c:=by
 obtain⟨k,hk,hf⟩:∃k:Nat,k<4/\((f<0\/4<=f)/\k=1\/f=(k:Int)):=by
  by_cases hf:f<0\/4<=f
  . exact⟨1,by omega,.inl ⟨hf,rfl⟩⟩
  . exact⟨f.toNat,by omega,.inr (by omega)⟩
 have ok:=M.iM k
 have kE:=fun u:World=>bK k hk u
 have kP:=fun(cl:Int)(ng:Bool)(s:Nat)(q:Int)(u:World)(hs:s<2^128)(h1:-1000000<=q)(h2:q<=1000000)=>(mC k hk cl ng s hs q (by omega) (by omega) u).mono (fun e u' g=>(⟨_,_,M4 ok _,g.1,g.2⟩:∃(Y:Nat)(o:Bool),Y<2^128/\e=.returned (.tuple #[.agg #[.int .u64 (M.hiN Y:Int),.int .u64 (M.loN Y:Int)],.bool o])/\Below u.heap.size u u'))
 simp only[dv]at kE;have p1:=ok.p1;have p2:=ok.p2;have hwd:=ok.w
 have hem:(M.fm k).emax<=16383/\1<=(M.fm k).emax:=by
  have e2:=ok.e2;have e1:=ok.e1;unfold M.Fm.emax;have a:2^((M.fm k).e-1)<=2^14:=Nat.pow_le_pow_right (by omega) (by omega);have b:2^7<=2^((M.fm k).e-1):=Nat.pow_le_pow_right (by omega) (by omega);omega
 rcases hf with⟨hf,rfl⟩|rfl
 . generalize M.fm 1=F at*
   exact JI F.p (F.p-1) F.wd (129-F.p) f 1 (1-(F.emax:Int)) F.emax F.e _ (F.emax-(1-(F.emax:Int))+1) F.x hl hn hb h (by omega) (by omega) (by omega) (by omega) hwd rfl rfl (by omega) (by omega) (by omega) (by omega) 0 0 0 0 0 false (fun u=>iR f u hf) (Or.inr ⟨rfl,kE,rfl⟩) kP
 . generalize M.fm k=F at*;exact JI F.p (F.p-1) F.wd (129-F.p) k k (1-(F.emax:Int)) F.emax F.e _ (F.emax-(1-(F.emax:Int))+1) F.x hl hn hb h (by omega) (by omega) (by omega) (by omega) hwd rfl rfl (by omega) (by omega) (by omega) (by omega) _ _ _ _ _ _ kE (Or.inl ⟨rfl,rfl,rfl,rfl,rfl,rfl,rfl⟩) kP

theorem AC (f:Int)(X:Nat)(v:World)(hX:X<2^128):Calls Tryz.prog 87 #[.int .i64 f,.agg #[.int .u64 (M.hiN X:Int),.int .u64 (M.loN X:Int)]] v fun e v'=>PrP v v' e:=by
 by_cases hf:0<=f/\f<4
 . obtain⟨k,rfl⟩:∃k:Nat,f=(k:Int):=⟨f.toNat,by omega⟩;have hk:k<4:=by omega
   have h':=M.iM k;obtain⟨T,hT⟩:∃T,T=(M.fm k).upk X:=⟨_,rfl⟩;have hp:=h'.upk_proper X;rw[<-hT]at hp;have hp0:(M.fm k).p≠0:=by have:=h'.p1;omega
   have sE:=fun v:World=>bK k hk v
   have sU:=fun v:World=>iO k hk X hX v
   rw[<-hT]at sU
   by_cases hc:T.c=2\/T.c=3
   . have hpr:(M.fm k).Proper T:=by
      rcases hp with hp|hp
      . rw[hp]at hc;simp at hc
      . exact hp
     have kS:=fun v:World=>E9 k hk X hX v T hT hc hpr
     have c1:(T.c:Int)≠1:=by omega
     have c4:(T.c:Int)≠4:=by omega
     have c5:(T.c:Int)≠5:=by omega
     refine zH _ _ _ _ _ _ _ _ v (fun u=>(kS u).mono ?_) sU
     rintro e w' ⟨d,x,n,g1,g2,g3,g4⟩;exact⟨d,x,n,.inr ⟨c5,.inr (.inr ⟨c1,c4,g1,g2,g3⟩)⟩,g4⟩
   . have hcc:T.c=0\/T.c=1\/T.c=4\/T.c=5:=by
      rcases hp with hp|hp
      . rw[hp];exact .inl rfl
      . unfold M.Fm.Proper at hp;omega
     by_cases hc0:T.c=0
     . exact uC _ _ _ v 3 (by decide) (fun u=>s7 (k:Int) X T (M.fm k) u hp0 false 3 (.inl ⟨hc0,rfl,rfl⟩) sE sU)
     have hcx:T.c=1\/T.c=4\/T.c=5:=by omega
     have kS:=fun v:World=>s7 (k:Int) X T (M.fm k) v hp0 T.n 0 (.inr ⟨hcx,rfl,rfl⟩) sE sU
     exact zH _ _ _ _ _ _ _ _ v (fun u=>(kS u).mono (fun e w' g=>⟨[],0,T.n,(show T.c=5\/T.c≠5/\(T.c=4\/T.c=1\/T.c≠1/\T.c≠4/\_) by omega),g⟩)) sU
 . have hn:f<0\/4<=f:=by omega
   exact uC _ _ _ v 4 (by decide) (fun u=>ED f hn X u)

theorem CI (f:Int){w0 v:World}{ao:Option Addr}{n c:Nat}{bs:List Nat}(hl:bs.length=n)(hn:n<=1048576)(hb:RdB w0 ao bs)(h:Rs w0 v ao n c):
 Calls Tryz.prog 89 #[.pointer (some ⟨w0.heap.size,0,none⟩),.int .i64 f] v fun e v'=>TxA w0 ao n c e v':=by
 obtain⟨k,hk,hf⟩:∃k:Nat,k<4/\((f<0\/4<=f)/\(k:Int)=0\/(0<=f/\f<4)/\(k:Int)=f):=by
  by_cases hf:f<0\/4<=f
  . exact⟨0,by omega,.inl ⟨hf,rfl⟩⟩
  . exact⟨f.toNat,by omega,.inr (by omega)⟩
 have ok:=M.iM k;have p1:=ok.p1;have p2:=ok.p2;have em:=ok.emax_le
 have kE:=fun v:World=>bK k hk v
 refine AR f (k:Int) (M.fm k) hl hn hb h (by omega) (by omega) hf (fun v hv=>xI (k:Int) hl hn hb hv) (fun X v hX=>(iO k hk X hX v).mono ?_) kE (fun cl ng s q v h1 h2 h3 h4=>KL (k:Int) ⟨cl,ng,s,q⟩ (M.fm k) _ v h1 h2 (show-16700<=q by omega) (show q<=16700 by omega) (by omega) p2 (by omega) rfl kE)
 rintro e w' ⟨rfl,hb'⟩
 refine⟨_,_,_,_,rfl,fun hc=>?_,hb'⟩
 have hp:=ok.upk_proper X
 have hpr:(M.fm k).Proper ((M.fm k).upk X):=by
  rcases hp with hp|hp
  . rw[hp]at hc;simp at hc
  . exact hp
 obtain⟨s1,-,-,-,-,-,s3,-⟩:=GQ ok hpr (by omega);exact⟨s1,by omega⟩

theorem J3 (f:Int){w0 v:World}{ao:Option Addr}{n c:Nat}{bs:List Nat}(hl:bs.length=n)(hn:n<=1048576)(hb:RdB w0 ao bs)(h:Rs w0 v ao n c):
 Calls Tryz.prog 16 #[.pointer (some ⟨w0.heap.size,0,none⟩),.int .i64 f] v fun e v'=>TxB w0 ao n c e v':=
 IV f hl hn hb h (fun v hv=>zM f hl hn hb hv (fun v hv=>xI f hl hn hb hv) (fun X v hX=>AC f X v hX) (fun v hv=>CI f hl hn hb hv))

end Go.Proofs.YtfdgkleoaehjaaaGreatDoor
namespace Go.Proofs.YtfdgkleoaehjaaaGreatDoor.M
set_option linter.unusedVariables false
set_option maxRecDepth 100000

theorem IK {n1 m1 n2 m2:Nat}(h1:0<m1)(h2:0<m2)(h:n1*m2<=n2*m1):n1/m1+rUp n1 m1<=n2/m2+rUp n2 m2:=by
 have e1:=Nat.div_add_mod n1 m1;have e2:=Nat.div_add_mod n2 m2;have l1:=Nat.mod_lt n1 h1;have l2:=Nat.mod_lt n2 h2
 have u1:rUp n1 m1<=1:=by unfold rUp;split<;>omega
 rcases Nat.lt_trichotomy (n1/m1) (n2/m2)with c|c|c
 . omega
 . have hr:n1%m1*m2<=n2%m2*m1:=by
    have a:n1*m2=m1*m2*(n1/m1)+n1%m1*m2:=by
     conv=>lhs;rw[<-e1]
     rw[Nat.add_mul,Nat.mul_right_comm]
    have b:n2*m1=m1*m2*(n2/m2)+n2%m2*m1:=by
     conv=>lhs;rw[<-e2]
     rw[Nat.add_mul,Nat.mul_right_comm,Nat.mul_comm m2 m1]
    rw[a,b,c]at h;omega
   suffices rUp n1 m1<=rUp n2 m2 by omega
   unfold rUp;rw[c];generalize n1%m1=r1 at*;generalize n2%m2=r2 at*;generalize n2/m2%2=o at*
   by_cases g:m1<2*r1\/2*r1=m1/\o=1
   . have k1:m1*m2<=2*r1*m2:=Nat.mul_le_mul_right _ (by omega);have k2:2*r1*m2<=2*r2*m1:=by rw[Nat.mul_assoc,Nat.mul_assoc];omega
     have k3:m2<=2*r2:=by
      have:m1*m2<=m1*(2*r2):=by rw[Nat.mul_comm m1 (2*r2)];omega
      exact Nat.le_of_mul_le_mul_left this h1
     have:m2<2*r2\/2*r2=m2/\o=1:=by
      rcases Nat.lt_or_eq_of_le k3 with q|q
      . exact .inl q
      . refine .inr ⟨q.symm,?_⟩;rcases g with g|g
        . exfalso
          have a:m1*m2<2*r1*m2:=Nat.mul_lt_mul_of_pos_right g h2;rw[<-q,Nat.mul_comm m2 m1]at k2;omega
        . exact g.2
     rw[if_pos this]
     split<;>omega
   . rw[if_neg g];exact Nat.zero_le _
 . exfalso
   have a:(n2/m2+1)*m1*m2<=n1*m2:=by
    refine Nat.mul_le_mul_right _ ?_;exact Nat.le_trans (Nat.mul_le_mul_right _ (show n2/m2+1<=n1/m1 by omega)) (Nat.div_mul_le_self _ _)
   have b:n2*m1<(n2/m2+1)*m1*m2:=by
    rw[Nat.mul_right_comm];refine Nat.mul_lt_mul_of_pos_right ?_ h1;rw[Nat.add_mul,Nat.one_mul,Nat.mul_comm];omega
   omega

theorem FY {N1 D1 N2 D2:Nat}(h1:0<D1)(h:N1*D2<=N2*D1)(e:Int)(hl:lt2 N2 D2 e):lt2 N1 D1 e:=by
 unfold lt2 at*
 have a:N1*2^(-e).toNat*D2<=N2*2^(-e).toNat*D1:=by
  rw[Nat.mul_right_comm,Nat.mul_right_comm N2];exact Nat.mul_le_mul_right _ h
 have b:=Nat.mul_lt_mul_of_pos_right hl h1;have c:D2*2^e.toNat*D1=D1*2^e.toNat*D2:=by rw[Nat.mul_right_comm,Nat.mul_comm D2 D1,Nat.mul_right_comm]
 exact Nat.lt_of_mul_lt_mul_right (a:=D2) (by omega)

def Fm.rG (F:Fm)(N De:Nat):Nat:=(F.rQ N De-F.qmin).toNat*F.lead+F.rS N De

theorem Fm.Ok.rG_mono {F:Fm}(h:F.Ok){N1 D1 N2 D2:Nat}(p1:0<N1)(p2:0<N2)(d1:0<D1)(d2:0<D2)(hle:N1*D2<=N2*D1):F.rG N1 D1<=F.rG N2 D2:=by
 obtain⟨a1,a2⟩:=vI N1 D1 p1 d1;obtain⟨b1,b2⟩:=vI N2 D2 p2 d2
 have hE:rE N1 D1<=rE N2 D2:=by
  refine Int.not_lt.1 fun hh=>?_
  exact a1 (iY d1 (FY d1 hle _ b2) (by omega))
 have q1:F.rQ N1 D1=max (rE N1 D1-F.p+1) F.qmin:=rfl;have q2:F.rQ N2 D2=max (rE N2 D2-F.p+1) F.qmin:=rfl;obtain⟨m1,-,-⟩:=h.rS_ok N1 D1 p1 d1;obtain⟨m2,-,g2⟩:=h.rS_ok N2 D2 p2 d2;have s1:=h.rS_le N1 D1 p1 d1;have two:=h.two_lead;unfold Fm.rG;rcases(show F.rQ N1 D1=F.rQ N2 D2\/F.rQ N1 D1<F.rQ N2 D2 by omega)with hq|hq
 . have:F.rS N1 D1<=F.rS N2 D2:=by
    unfold Fm.rS;refine IK m1 m2 ?_;unfold Fm.rN Fm.rM;rw[hq];generalize 2^(-(F.rQ N2 D2)).toNat=x;generalize 2^(F.rQ N2 D2).toNat=y;have e1:N1*x*(D2*y)=N1*D2*(x*y):=by rw[Nat.mul_mul_mul_comm]
    have e2:N2*x*(D1*y)=N2*D1*(x*y):=by rw[Nat.mul_mul_mul_comm]
    rw[e1,e2];exact Nat.mul_le_mul_right _ hle
   rw[hq];omega
 . have l2:F.lead<=F.rS N2 D2:=by
    have:=g2 (by omega);unfold Fm.rS;omega
   obtain⟨A,hA⟩:∃A:Nat,A=(F.rQ N1 D1-F.qmin).toNat:=⟨_,rfl⟩;obtain⟨B,hB⟩:∃B:Nat,B=(F.rQ N2 D2-F.qmin).toNat:=⟨_,rfl⟩;rw[<-hA,<-hB];have hAB:A+1<=B:=by omega
   have:=Nat.mul_le_mul_right F.lead hAB;rw[Nat.add_mul,Nat.one_mul]at this;omega

theorem Fm.Ok.rank_rPt {F:Fm}(h:F.Ok)(n:Bool)(N De:Nat)(hN:0<N)(hd:0<De):F.rank (F.rPt n N De)=min (F.rG N De) (F.top*F.lead):=by
 have two:=h.two_lead;have lp:=h.leadPos;have tp:=h.top2;have q1:F.rQ N De=max (rE N De-F.p+1) F.qmin:=rfl;have qm:F.qmin=2-(F.emax:Int)-(F.p:Int):=rfl;have lo:=h.rLow N De hN hd;have sl:=h.rS_le N De hN hd;obtain⟨m1,-,g1⟩:=h.rS_ok N De hN hd;have hle:F.rN N De/F.rM N De<=F.rS N De:=by unfold Fm.rS;omega
 have eG:(F.rExp N De-F.qmin).toNat*F.lead+F.rSig N De=F.rG N De:=by
  unfold Fm.rG Fm.rExp Fm.rSig
  by_cases c:F.rS N De=2^F.p
  . rw[if_pos c,if_pos c,c,two,show(F.rQ N De+1-F.qmin).toNat=(F.rQ N De-F.qmin).toNat+1 by omega,Nat.add_mul];omega
  . rw[if_neg c,if_neg c]
 have eQ:F.qmin<=F.rExp N De:=by unfold Fm.rExp;split<;>omega
 have sg:=h.rSig_lt N De hN hd;rw[<-eG];unfold Fm.rPt
 by_cases c1:F.rSig N De=0
 . rw[if_pos c1];obtain⟨x1,-,-⟩:=lo (by omega);unfold Fm.rank;rw[c1,x1]
   simp
 rw[if_neg c1]
 by_cases c2:F.rSig N De<F.lead
 . rw[if_pos c2];obtain⟨x1,-,-⟩:=lo c2;unfold Fm.rank;simp only;rw[x1];have:F.lead<=F.top*F.lead:=Nat.le_mul_of_pos_left _ (by omega)
   simp
   omega
 rw[if_neg c2];obtain⟨K,hK⟩:∃K:Nat,K=(F.rExp N De-F.qmin).toNat:=⟨_,rfl⟩;rw[<-hK]
 by_cases c3:(F.emax:Int)<F.rExp N De+F.p-1
 . rw[if_pos c3];unfold Fm.rank;simp only;have hT:F.top<=K+1:=by omega
   have:=Nat.mul_le_mul_right F.lead hT;rw[Nat.add_mul,Nat.one_mul]at this
   simp
   omega
 . rw[if_neg c3];unfold Fm.rank;simp only;rw[<-hK];have hT:K+2<=F.top:=by omega
   have:=Nat.mul_le_mul_right F.lead hT;rw[Nat.add_mul]at this
   simp
   omega

def lx:List Nat->List Nat->Prop
 |[],[]=>False
 |[],_::_=>True
 |_::_,[]=>False
 |x::r,y::s=>x<y\/(x=y/\lx r s)

def BU (a b:Dec):Prop:=(a.digits.length:Int)+a.exp<(b.digits.length:Int)+b.exp\/((a.digits.length:Int)+a.exp=(b.digits.length:Int)+b.exp/\lx a.digits b.digits)

end Go.Proofs.YtfdgkleoaehjaaaGreatDoor.M
namespace Go.Proofs.YtfdgkleoaehjaaaGreatDoor
open Go.RowKit
set_option linter.unusedVariables false
set_option maxRecDepth 100000

structure Par (w:World)(f:Int)(m:Nat)(xs:List Nat)(A B C E K:Int):Prop where
 s:∀(v:World)(ao:Option Addr)(cc:Nat),m<=cc->(ao=none->cc=0)->RdB v ao xs->Calls Tryz.prog 7 #[.int .i64 f,.slice ao m cc] v fun e w'=>e=.returned (.agg #[.int .u64 A,.int .u64 B,.int .i64 C,.int .i64 E,.int .i64 K])/\Below v.heap.size v w'
 i:∀(v:World)(ao:Option Addr)(cc:Nat),Below w.heap.size w v->RdB v ao xs->Calls Tryz.prog 6 #[.int .i64 f,.slice ao m cc] v fun e w'=>e=.returned (.agg #[.int .u64 A,.int .u64 B,.int .i64 C,.int .i64 E,.int .i64 K])/\Below v.heap.size v w'

def Scn (m:Nat)(xs:List Nat)(d:M.Dec)(s1 s2:Int):Prop:=
 ∀(v:World)(ao:Option Addr)(cc:Nat),m<=cc->(ao=none->cc=0)->RdB v ao xs->Calls Tryz.prog 8 #[.slice ao m cc] v fun e w'=>∃(ra:Option Addr)(l rc:Nat),e=.returned (.agg #[.int .i64 d.kind,.bool d.neg,.slice ra l rc,.int .i64 d.exp,.int .i64 s1,.int .i64 s2])/\l=d.digits.length/\RdB w' ra d.digits/\Below v.heap.size v w'

theorem P6 (bs:List Nat)(i n:Nat)(hl:bs.length=n)(hi:i<=n):adv bs i<=n:=by unfold adv;split<;>omega

theorem GR {w:World}{g:Nat}{ao:Option Addr}{n c i:Nat}(h:IsRdr w g ao n c i)(o:Obj):IsRdr (w.alloc o) g ao n c i:=by
 unfold IsRdr;rw[Below.heap_alloc w o g h.lt];exact h

theorem KQ {w v:World}{r:Option Nat}(h:w.grownBy v r)(o:Obj):w.grownBy (v.alloc o) r:=
 ⟨h.os,h.tape,h.output,by have:=h.size;simp;omega,fun k hk hr=>(Below.heap_alloc v o k (Nat.lt_of_lt_of_le hk h.size)).trans (h.block k hk hr)⟩

theorem CB (g:Nat)(ao:Option Addr)(n c i:Nat)(bs:List Nat)(w:World)(hl:bs.length=n)(hn:n<=1048576)(hi:i<=n)(hR:IsRdr w g ao n c i)(hb:RdB w ao bs)(hsep:0<bs.length->∀b2 o2,ao=some ⟨b2,o2,none⟩->b2≠g):
 Calls Tryz.prog 34 #[.pointer (some ⟨g,0,none⟩)] w fun e w'=>∃(z:Int)(i':Nat),e=.returned (.int .i64 z)/\i'<=n/\IsRdr w' g ao n c i'/\w.grownBy w' (some g):=by
 obtain⟨k,ek⟩:∃k:Nat,k=rdB bs i:=⟨_,rfl⟩;have hkb:k<256:=by rw[ek];exact vZ hb i
 have EK:=hid ek;clear ek;go_enter Tryz.func34,Tryz.ntmps34;go_wp2_with fail;refine(rW g ao n c i bs _ hl hn hi hR hb k EK.out).mono ?_;rintro e w1 ⟨rfl,hR1,hg1⟩;have hp1:=P6 bs i n hl hi;generalize adv bs i=p1 at hR1 hp1;have hb1:=hb.grown hg1 hsep
 by_cases h240:240<=k
 . have h240':(240:Int)<=(k:Int):=by omega
   obtain⟨m,hm⟩:∃m:Nat,m=k%8:=⟨_,rfl⟩;have hmI:(k:Int)%8=(m:Int):=by omega
   have hm8:m<8:=by omega
   clear hm;rcases(show m=0\/m=1\/m=2\/m=3\/m=4\/m=5\/m=6\/m=7 by omega)with rfl|rfl|rfl|rfl|rfl|rfl|rfl|rfl
   all_goals
    go_wp2_with fail;go_ret;exact⟨_,p1,rfl,hp1,GR hR1 _,KQ hg1 _⟩
 . have h240':¬(240:Int)<=(k:Int):=by omega
   by_cases h3:k%3=0
   . have h3':(k:Int)%3=0:=by omega
     go_wp2_with fail;go_ret;exact⟨_,p1,rfl,hp1,hR1,hg1⟩
   . have h3':¬(k:Int)%3=0:=by omega
     have h3b:((k:Int)%3==0)=false:=by simp[h3']
     go_wp2_with fail;go_ret;exact⟨_,p1,rfl,hp1,hR1,hg1⟩

theorem OR {w0 v:World}{ao:Option Addr}{n c:Nat}{bs:List Nat}(hl:bs.length=n)(hn:n<=1048576)(hb:RdB w0 ao bs)(h:Rs w0 v ao n c):
 Calls Tryz.prog 34 #[.pointer (some ⟨w0.heap.size,0,none⟩)] v fun e v'=>∃W:Int,e=.returned (.int .i64 W)/\Rs w0 v' ao n c:=by
 obtain⟨i,h1,h2,h3⟩:=h;refine(CB w0.heap.size ao n c i bs v hl hn h1 h2 (hb.below h3) (Q9 hb)).mono ?_;rintro e v' ⟨z,i',rfl,hi',hR,hg⟩
 exact⟨z,rfl,⟨i',hi',hR,h3.grown hg h3.size (fun _ e=>by cases e;exact Nat.le_refl _)⟩⟩

def DrF (v v':World)(e:Ending):Prop:=∃(f:Int)(ra:Option Addr)(m rc:Nat)(W:Int),e=.returned (.tuple #[.int .i64 f,.slice ra m rc,.int .i64 W])/\(∃xs:List Nat,xs.length=m/\m<=rc/\(ra=none->rc=0)/\RdB v' ra xs)/\Below v.heap.size v v'

theorem EE (ao:Option Addr)(n c:Nat)(bs:List Nat)(w:World)(hl:bs.length=n)(hn:n<=1048576)(hb:RdB w ao bs):
 Calls Tryz.prog 12 #[.slice ao n c] w fun e w'=>DrF w w' e:=by
 have s0:Rs w (w.alloc (.cells #[.slice ao n c,.int .i64 0] 50)) ao n c:=⟨0,by omega,heap_alloc_new w _,(Below.refl _ _).alloc (Nat.le_refl _) _⟩;go_enter Tryz.func12,Tryz.ntmps12;go_wp2_with fail;refine(BJ hl hn hb s0).mono ?_;rintro e w3 ⟨f,_,_,rfl,s3⟩;clear s0;go_wp2_with fail;refine(OR hl hn hb s3).mono ?_;rintro e w4 ⟨W,rfl,s4⟩;clear s3;go_wp2_with fail;refine(J3 f hl hn hb s4).mono ?_;rintro e w5 ⟨ra,m,rc,rfl,hx,s5⟩;have HX:=hid hx;have HS:=hid s5;clear hx s4 s5;go_wp2_with fail;exact bodyPost_ret (v:=.tuple #[.int .i64 f,.slice ra m rc,.int .i64 W]) (by simp[results,Tryz.results12,go_sem]) rfl ⟨f,ra,m,rc,W,rfl,HX.out,HS.out.below⟩

theorem QC (a b c d e:Int)(x:Bool)(v:World):Sem.run Tryz.prog (Instr.field 45 (.agg #[.int .u64 a,.int .u64 b,.int .i64 c,.int .i64 d,.int .i64 e,.bool x]) 1) v=.ok (.bool x) v:=by kernel_rfl

theorem P3 (k:Int)(n:Bool)(a:Option Addr)(l c:Nat)(x s o:Int)(v:World):Sem.run Tryz.prog (Instr.field 34 (.agg #[.int .i64 k,.bool n,.slice a l c,.int .i64 x,.int .i64 s,.int .i64 o]) 0) v=.ok (.agg #[.int .i64 k,.bool n,.slice a l c,.int .i64 x]) v:=by kernel_rfl

structure Fst (w:World)(f:Int)(m:Nat)(xs:List Nat)(W A B C E K:Int)(s:Bool):Prop where
 i:∀(v:World)(ao:Option Addr)(cc:Nat),Below w.heap.size w v->RdB v ao xs->Calls Tryz.prog 13 #[.int .i64 f,.slice ao m cc,.int .i64 W] v fun e w'=>e=.returned (.agg #[.int .u64 A,.int .u64 B,.int .i64 C,.int .i64 E,.int .i64 K,.bool s])/\Below v.heap.size v w'
 s:∃A2 B2 C2 E2 K2:Int,∀(v:World)(ao:Option Addr)(cc:Nat),m<=cc->(ao=none->cc=0)->RdB v ao xs->Calls Tryz.prog 14 #[.int .i64 f,.slice ao m cc,.int .i64 W] v fun e w'=>e=.returned (.agg #[.int .u64 A2,.int .u64 B2,.int .i64 C2,.int .i64 E2,.int .i64 K2,.bool s])/\Below v.heap.size v w'

theorem I2 (a0:Option Addr)(n c:Nat)(w:World)(h1:n<=1048576)
 (kD:Calls Tryz.prog 12 #[.slice a0 n c] w fun e v'=>DrF w v' e)
 (kA:∀(f:Int)(m:Nat)(xs:List Nat)(W:Int),xs.length=m->∃(A B C E K A' B' C' E' K':Int)(s:Bool)(d:M.Dec)(s1 s2:Int),
   Fst w f m xs W A B C E K s/\Par w f m xs A' B' C' E' K'/\Scn m xs d s1 s2/\(s=true->A=A'/\B=B'/\C=C'/\E=E'/\K=K')/\
   (d.kind=1->d.digits.length<=19->0<=d.exp->d.exp<=27->64<=W->W<=128->s=true)):
 Calls Tryz.prog 4 #[.slice a0 n c] w fun e w'=>e=.returned (.bool true)/\Below w.heap.size w w':=by
 have h1':¬(1048576:Int)<(n:Int):=by omega
 have ff:=QC;have fs:=P3;go_enter Tryz.func4,Tryz.ntmps4;go_wp2_with fail;refine kD.mono ?_;rintro e v1 ⟨f,ra,m,rc,W,rfl,⟨xs,hm,hrc,hno,rx⟩,b0⟩;obtain⟨A,B,C,E,K,A',B',C',E',K',s,d,s1,s2,fX,pX,sX,hsame,hsure⟩:=kA f m xs W hm;have FX:=hid fX;have PX:=hid pX;have SX:=hid sX;have HN:=hid hno;have HS:=hid hsame;have HU:=hid hsure;clear kA kD fX pX sX hno hm hsame hsure;go_wp2_with fail;refine(FX.out.i _ ra rc b0 rx).mono ?_;rintro e v2 ⟨rfl,hb⟩;have c6:=Cls.new v2 #[.int .u64 A,.int .u64 B,.int .i64 C,.int .i64 E,.int .i64 K,.bool s] 45;have hb9:=(Below.refl _ v2).alloc (Nat.le_refl _) (.cells #[.int .u64 A,.int .u64 B,.int .i64 C,.int .i64 E,.int .i64 K,.bool s] 45);replace hb:=hb.trans (hb9.mono hb.size);replace rx:=rx.below hb;replace b0:=b0.trans (hb.mono b0.size);clear hb hb9;go_upto_region 5 with fail;generalize v2.alloc (.cells #[.int .u64 A,.int .u64 B,.int .i64 C,.int .i64 E,.int .i64 K,.bool s] 45)=v3 at*;generalize v2.heap.size=g6 at*;go_wp2_with fail;refine(PX.out.i _ ra rc b0 rx).mono ?_;rintro e v4 ⟨rfl,hb⟩;have c7:=Cls.new v4 #[.int .u64 A',.int .u64 B',.int .i64 C',.int .i64 E',.int .i64 K'] 29;have hb9:=(Below.refl _ v4).alloc (Nat.le_refl _) (.cells #[.int .u64 A',.int .u64 B',.int .i64 C',.int .i64 E',.int .i64 K'] 29);replace hb:=hb.trans (hb9.mono hb.size);replace rx:=rx.below hb;replace c6:=c6.below hb;replace b0:=b0.trans (hb.mono b0.size);clear hb hb9;go_upto_region 6 with fail;generalize v4.alloc (.cells #[.int .u64 A',.int .u64 B',.int .i64 C',.int .i64 E',.int .i64 K'] 29)=v5 at*;generalize v4.heap.size=g7 at*
 go_cut[29] (fun z wx=>z=.bool false/\Below v5.heap.size v5 wx)
 case first=>
  as_aux_lemma=>
  have A0:Below v5.heap.size v5 v5.drew:=(Below.refl _ _).drew
  have KB:=hid (fun(v:World)(hv:Below v5.heap.size v5 v)=>show(fun v:World=>v.cell? ⟨g7,0,none⟩=some (.int .u64 A')/\v.cell? ⟨g7,1,none⟩=some (.int .u64 B')/\v.cell? ⟨g7,2,none⟩=some (.int .i64 C')/\v.cell? ⟨g7,3,none⟩=some (.int .i64 E')/\v.cell? ⟨g7,4,none⟩=some (.int .i64 K')) v from⟨(c7.below hv).cell 0 rfl,(c7.below hv).cell 1 rfl,(c7.below hv).cell 2 rfl,(c7.below hv).cell 3 rfl,(c7.below hv).cell 4 rfl⟩)
  first|(go_region_held3 (fun v:World=>v.cell? ⟨g7,0,none⟩=some (.int .u64 A')/\v.cell? ⟨g7,1,none⟩=some (.int .u64 B')/\v.cell? ⟨g7,2,none⟩=some (.int .i64 C')/\v.cell? ⟨g7,3,none⟩=some (.int .i64 E')/\v.cell? ⟨g7,4,none⟩=some (.int .i64 K')) (first|with_reducible exact KB.out _ hb1|with_reducible exact KB.out _ A0) (first|(go_at_call 7;refine(PX.out.s _ ra rc hrc HN.out (rx.below A0)).mono ?_;rintro e u1 ⟨rfl,hb0⟩;have hb1:=aK (w1:=v5) A0 hb0;clear hb0)))|fail
  all_goals go_wp2_with fail
  all_goals go_meet
  all_goals exact⟨rfl,hb1⟩
 case rest=>
 as_aux_lemma=>
 rename World=>v6
 obtain⟨rfl,hb⟩:=hcut;replace rx:=rx.below hb;replace c6:=c6.below hb;replace c7:=c7.below hb;replace b0:=b0.trans (hb.mono b0.size);clear hb;have p0:=c6.cell 0 rfl;have p1:=c6.cell 1 rfl;have p2:=c6.cell 2 rfl;have p3:=c6.cell 3 rfl;have p4:=c6.cell 4 rfl;have p5:=c6.cell 5 rfl;have q0:=c7.cell 0 rfl;have q1:=c7.cell 1 rfl;have q2:=c7.cell 2 rfl;have q3:=c7.cell 3 rfl;have q4:=c7.cell 4 rfl;go_upto_region 8 with fail
 go_cut[37] (fun z wx=>z=.bool false/\wx=v6)
 case first=>
  as_aux_lemma=>
  cases s with
  |true=>
   obtain⟨rfl,rfl,rfl,rfl,rfl⟩:=HS.out rfl;go_wp2_with fail;go_meet
   case rel=>exact⟨by simp,rfl⟩
  |false=>
   go_wp2_with fail;go_meet
   case rel=>exact⟨rfl,rfl⟩
 case rest=>
 as_aux_lemma=>
 rename World=>v7
 obtain⟨rfl,rfl⟩:=hcut;clear p0 p1 p2 p3 p4 p5 q0 q1 q2 q3 q4 c7;obtain⟨A2,B2,C2,E2,K2,kF⟩:=FX.out.s;go_upto_region 10 with fail
 go_cut[45] (fun z wx=>z=.bool false/\Below v7.heap.size v7 wx)
 case first=>
  as_aux_lemma=>
  have A0:Below v7.heap.size v7 v7.drew:=(Below.refl _ _).drew
  have KB:=hid (fun(v:World)(hv:Below v7.heap.size v7 v)=>show(fun v:World=>v.cell? ⟨g6,5,none⟩=some (.bool s)) v from(c6.below hv).cell 5 rfl)
  have sx:(s==s)=true:=by simp
  first|(go_region_held3 (fun v:World=>v.cell? ⟨g6,5,none⟩=some (.bool s)) (first|with_reducible exact KB.out _ hb1|with_reducible exact KB.out _ A0) (first|(go_at_call 14;refine(kF _ ra rc hrc HN.out (rx.below A0)).mono ?_;rintro e u1 ⟨rfl,hb0⟩;have hb1:=aK (w1:=v7) A0 hb0;clear hb0)))|fail
  all_goals go_wp2_with fail
  all_goals go_meet
  all_goals exact⟨by simp,hb1⟩
 case rest=>
 as_aux_lemma=>
 rename World=>v8
 obtain⟨rfl,hb⟩:=hcut;replace rx:=rx.below hb;replace c6:=c6.below hb;replace b0:=b0.trans (hb.mono b0.size);clear hb kF;go_wp2_with fail;refine(SX.out _ ra rc hrc HN.out rx).mono ?_;rintro e v9 ⟨xa,l,xc,rfl,hl,rdX,hb⟩;have HL:=hid hl;clear hl rdX;have cX:=Cls.new v9 #[.int .i64 d.kind,.bool d.neg,.slice xa l xc,.int .i64 d.exp] 32;have hb9:=(Below.refl _ v9).alloc (Nat.le_refl _) (.cells #[.int .i64 d.kind,.bool d.neg,.slice xa l xc,.int .i64 d.exp] 32);replace hb:=hb.trans (hb9.mono hb.size);replace c6:=c6.below hb;replace b0:=b0.trans (hb.mono b0.size);clear hb hb9 rx;go_upto_region 13 with fail;generalize v9.alloc (.cells #[.int .i64 d.kind,.bool d.neg,.slice xa l xc,.int .i64 d.exp] 32)=vA at*;generalize v9.heap.size=gX at*;have x0:=cX.cell 0 rfl;have x2:=cX.cell 2 rfl;have x3:=cX.cell 3 rfl;have p5:=c6.cell 5 rfl;have HB:=hid b0;clear b0 cX c6;have hU:d.kind=1->l<=19->0<=d.exp->d.exp<=27->64<=W->W<=128->s=true:=by rw[HL.out];exact HU.out
 have HU2:=hid hU;clear hU HU HL;generalize d.kind=dk at*;generalize d.exp=de at*
 by_cases c1:dk=1
 . subst c1
   by_cases c2:l<=19
   . have c2':(l:Int)<=19:=by omega
     by_cases c3:0<=de
     . by_cases c4:de<=27
       . by_cases c5:64<=W
         . by_cases c6:W<=128
           . have hs:=HU2.out rfl c2 c3 c4 c5 c6;subst hs;go_wp2_with fail;go_ret;exact⟨rfl,HB.out⟩
           . go_wp2_with fail;go_ret;exact⟨rfl,HB.out⟩
         . go_wp2_with fail;go_ret;exact⟨rfl,HB.out⟩
       . go_wp2_with fail;go_ret;exact⟨rfl,HB.out⟩
     . go_wp2_with fail;go_ret;exact⟨rfl,HB.out⟩
   . have c2':¬(l:Int)<=19:=by omega
     go_wp2_with fail;go_ret;exact⟨rfl,HB.out⟩
 . have c1':(dk==1)=false:=beq_eq_false_iff_ne.2 c1;go_wp2_with fail;go_ret;exact⟨rfl,HB.out⟩

end Go.Proofs.YtfdgkleoaehjaaaGreatDoor
namespace Go.Proofs.YtfdgkleoaehjaaaGreatDoor.M
set_option linter.unusedVariables false
set_option maxRecDepth 100000

theorem Fm.Ok.pat_rank {F:Fm}(h:F.Ok)(t:Pt)(hp:F.Proper t)(hc:t.c=2\/t.c=3):F.pat t.n (F.rank t)=t/\1<=F.rank t/\F.rank t<F.top*F.lead:=by
 have hl:=h.leadPos;have ht:=h.top2;have hq:F.qmin=2-(F.emax:Int)-(F.p:Int):=rfl;rcases t with⟨c,n,s,q⟩;simp only[Fm.Proper]at hp;simp only at hc;rcases hp with⟨rfl,_⟩|⟨rfl,_⟩|⟨rfl,_⟩|⟨rfl,h1,h2,rfl⟩|⟨rfl,h1,h2,h3,h4⟩
 . omega
 . omega
 . omega
 . have e:F.rank ⟨2,n,s,F.qmin⟩=s:=by simp[Fm.rank]
   have hm:F.lead<=F.top*F.lead:=Nat.le_mul_of_pos_left _ (by omega);rw[e];refine⟨?_,h1,by omega⟩;unfold Fm.pat;rw[if_neg (by omega),if_pos h2]
 . obtain⟨k,hk⟩:∃k:Nat,(k:Int)=q+F.emax+F.p-1:=⟨(q+F.emax+F.p-1).toNat,by omega⟩;have e0:(q-F.qmin).toNat=k-1:=by omega
   obtain⟨f,hf⟩:∃f,s=F.lead+f:=⟨s-F.lead,by omega⟩
   have e:F.rank ⟨3,n,s,q⟩=k*F.lead+f:=by
    simp only[Fm.rank];rw[if_neg (by omega),if_neg (by omega),e0,hf]
    have:k*F.lead=(k-1)*F.lead+F.lead:=by
     rw[<-Nat.succ_mul];congr 1;omega
    omega
   have hfl:f<F.lead:=by omega
   have d1:(k*F.lead+f)/F.lead=k:=by rw[Nat.mul_comm,Nat.mul_add_div hl,Nat.div_eq_of_lt hfl,Nat.add_zero]
   have d2:(k*F.lead+f)%F.lead=f:=by rw[Nat.mul_comm,Nat.mul_add_mod,Nat.mod_eq_of_lt hfl]
   have hk2:(k+1)*F.lead<=F.top*F.lead:=Nat.mul_le_mul_right _ (by omega);rw[Nat.succ_mul]at hk2;have hk3:1*F.lead<=k*F.lead:=Nat.mul_le_mul_right _ (by omega);rw[e];refine⟨?_,by omega,by omega⟩;unfold Fm.pat;rw[if_neg (by omega),if_neg (by omega),if_neg (by omega),d1,d2];exact Pt.ext' rfl rfl (by simp only;omega) (by simp only;omega)

theorem Fm.Ok.rPt_pat {F:Fm}(h:F.Ok)(n:Bool)(N De:Nat)(hN:0<N)(hd:0<De):F.rPt n N De=F.pat n (F.rank (F.rPt n N De)):=by
 have hp:=h.rPt_proper n N De hN hd;have lp:=h.leadPos;have tp:=h.top2;have tl:2*F.lead<=F.top*F.lead:=Nat.mul_le_mul_right _ (by omega)
 have nn:(F.rPt n N De).n=n:=by unfold Fm.rPt;split<;>(try rfl);split<;>(try rfl);split<;>rfl
 by_cases c1:F.rSig N De=0
 . have e:F.rPt n N De=⟨1,n,0,0⟩:=by unfold Fm.rPt;rw[if_pos c1]
   rw[e];simp[Fm.rank,Fm.pat]
 by_cases c2:F.rSig N De<F.lead
 . have e:(F.rPt n N De).c=2:=by unfold Fm.rPt;rw[if_neg c1,if_pos c2]
   have:=(h.pat_rank _ hp (.inl e)).1;rw[nn]at this;exact this.symm
 by_cases c3:(F.emax:Int)<F.rExp N De+F.p-1
 . have e:F.rPt n N De=⟨4,n,0,0⟩:=by unfold Fm.rPt;rw[if_neg c1,if_neg c2,if_pos c3]
   rw[e];have r:F.rank ⟨4,n,0,0⟩=F.top*F.lead:=by simp[Fm.rank]
   rw[r];unfold Fm.pat;rw[if_neg (by omega),if_neg (by omega),if_pos rfl]
 . have e:(F.rPt n N De).c=3:=by unfold Fm.rPt;rw[if_neg c1,if_neg c2,if_neg c3]
   have:=(h.pat_rank _ hp (.inr e)).1;rw[nn]at this;exact this.symm

theorem Fm.Ok.rPt_between {F:Fm}(h:F.Ok)(n:Bool){N1 D1 N De N2 D2:Nat}(p1:0<N1)(p:0<N)(p2:0<N2)(d1:0<D1)(d:0<De)(d2:0<D2)
 (lo:N1*De<=N*D1)(hi:N*D2<=N2*De)(e:F.rPt n N1 D1=F.rPt n N2 D2):F.rPt n N De=F.rPt n N1 D1:=by
 have a:=h.rG_mono p1 p d1 d lo;have b:=h.rG_mono p p2 d d2 hi;have k1:=h.rank_rPt n N1 D1 p1 d1;have k:=h.rank_rPt n N De p d;have k2:=h.rank_rPt n N2 D2 p2 d2;rw[<-e]at k2;have:F.rank (F.rPt n N De)=F.rank (F.rPt n N1 D1):=by omega
 rw[h.rPt_pat n N De p d,this,<-h.rPt_pat n N1 D1 p1 d1]

theorem Fm.rFl_of {F:Fm}{n:Bool}{N De N1 D1:Nat}(e:F.rPt n N De=F.rPt n N1 D1)(x y:Int):F.rFl N De x y=F.rFl N1 D1 x y:=by
 have k:∀N De,F.rFl N De x y=if(F.rPt n N De).c=1 then x else if(F.rPt n N De).c=2 then x else if(F.rPt n N De).c=4 then y else 0:=by
  intro N De;unfold Fm.rFl Fm.rPt
  by_cases c1:F.rSig N De=0
  . simp[c1]
  by_cases c2:F.rSig N De<F.lead
  . simp[c1,c2]
  by_cases c3:(F.emax:Int)<F.rExp N De+F.p-1
  . simp[c1,c2,c3]
  . simp[c1,c2,c3]
 rw[k,k,e]

theorem MB {D hd c T a b : Nat} {e k : Int} (hk : k = e + c) (h1 : hd * 10 ^ c <= D) (hT : T * (10 ^ (-k).toNat * 2 ^ a) <= 10 ^ k.toNat * 2 ^ b) :
    hd * T * 2 ^ a * 10 ^ (-e).toNat <= D * 10 ^ e.toNat * 2 ^ b := by
  have he : k.toNat + (-e).toNat = c + (e.toNat + (-k).toNat) := by omega
  have hp : 10 ^ k.toNat * 10 ^ (-e).toNat = 10 ^ c * (10 ^ e.toNat * 10 ^ (-k).toNat) := by rw [<- Nat.pow_add, he, Nat.pow_add, Nat.pow_add]
  refine Nat.le_of_mul_le_mul_right ?_ (show 0 < 10 ^ (-k).toNat from Nat.pow_pos (by omega));generalize 10 ^ k.toNat = K1 at *;generalize 10 ^ (-k).toNat = K2 at *;generalize 10 ^ e.toNat = E1 at *;generalize 10 ^ (-e).toNat = E2 at *;generalize 10 ^ c = C at *;generalize 2 ^ a = A at *;generalize 2 ^ b = B at *
  calc hd * T * A * E2 * K2 = hd * E2 * (T * (K2 * A)) := by simp only [Nat.mul_comm, Nat.mul_left_comm]
    _ <= hd * E2 * (K1 * B) := Nat.mul_le_mul_left _ hT
    _ = hd * B * (K1 * E2) := by simp only [Nat.mul_comm, Nat.mul_left_comm]
    _ = hd * C * (E1 * K2 * B) := by rw [hp]; simp only [Nat.mul_comm, Nat.mul_left_comm]
    _ <= D * (E1 * K2 * B) := Nat.mul_le_mul_right _ h1
    _ = D * E1 * B * K2 := by simp only [Nat.mul_comm, Nat.mul_left_comm]

theorem DL {D hd c U a b : Nat} {e k : Int} (hk : k = e + c) (h1 : D <= hd * 10 ^ c) (hU : 10 ^ k.toNat * 2 ^ b <= U * (10 ^ (-k).toNat * 2 ^ a)) :
    D * 10 ^ e.toNat * 2 ^ b <= hd * U * 2 ^ a * 10 ^ (-e).toNat := by
  have he : k.toNat + (-e).toNat = c + (e.toNat + (-k).toNat) := by omega
  have hp : 10 ^ k.toNat * 10 ^ (-e).toNat = 10 ^ c * (10 ^ e.toNat * 10 ^ (-k).toNat) := by rw [<- Nat.pow_add, he, Nat.pow_add, Nat.pow_add]
  refine Nat.le_of_mul_le_mul_right ?_ (show 0 < 10 ^ (-k).toNat from Nat.pow_pos (by omega));generalize 10 ^ k.toNat = K1 at *;generalize 10 ^ (-k).toNat = K2 at *;generalize 10 ^ e.toNat = E1 at *;generalize 10 ^ (-e).toNat = E2 at *;generalize 10 ^ c = C at *;generalize 2 ^ a = A at *;generalize 2 ^ b = B at *
  calc D * E1 * B * K2 = D * (E1 * K2 * B) := by simp only [Nat.mul_comm, Nat.mul_left_comm]
    _ <= hd * C * (E1 * K2 * B) := Nat.mul_le_mul_right _ h1
    _ = hd * B * (K1 * E2) := by rw [hp]; simp only [Nat.mul_comm, Nat.mul_left_comm]
    _ = hd * E2 * (K1 * B) := by simp only [Nat.mul_comm, Nat.mul_left_comm]
    _ <= hd * E2 * (U * (K2 * A)) := Nat.mul_le_mul_left _ hU
    _ = hd * U * A * E2 * K2 := by simp only [Nat.mul_comm, Nat.mul_left_comm]

theorem GZ {k s:Nat}(hk:k<=27)(hs:2^(s+63)<=10^k):10^k%2^s=0:=by
 have h5:(5:Nat)^k<2^63:=Nat.lt_of_le_of_lt (Nat.pow_le_pow_right (by omega) hk) (by decide);have e:(10:Nat)^k=2^k*5^k:=by rw[<-Nat.mul_pow]
 have:s<=k:=by
  apply Classical.byContradiction
  intro hc;have:(2:Nat)^(k+63)<=2^(s+63):=Nat.pow_le_pow_right (by omega) (by omega)
  have h6:(10:Nat)^k<2^(k+63):=by
   rw[e,Nat.pow_add];exact Nat.mul_lt_mul_of_pos_left h5 (Nat.pow_pos (by omega))
  omega
 obtain⟨r,rfl⟩:∃r,k=s+r:=⟨k-s,by omega⟩;rw[e,Nat.pow_add,Nat.mul_assoc];exact Nat.mul_mod_right _ _

end Go.Proofs.YtfdgkleoaehjaaaGreatDoor.M
