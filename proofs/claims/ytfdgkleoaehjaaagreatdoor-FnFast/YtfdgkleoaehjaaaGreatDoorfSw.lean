import Derived.Test.YtfdgkleoaehjaaaGreatDoorfGBG
import Derived.Test.YtfdgkleoaehjaaaGreatDoorfGBH
set_option maxHeartbeats 40000000
set_option maxRecDepth 10000
namespace Go.Proofs.YtfdgkleoaehjaaaGreatDoor
open Go.RowKit
set_option linter.unusedVariables false
set_option maxRecDepth 100000

structure SJ (v w0:World)(gp:Nat)(P Z:Array Value)(l:List (Option Addr×Nat)):Prop where
 rd:∀p∈l,Rd v p.1 (D p.2)
 cr:Cls v (w0.heap.size+1) Z 155
 cp:Cls v gp P 67
 b0:Below w0.heap.size w0 v

theorem SJ.below {v w0 v':World}{gp:Nat}{P Z:Array Value}{l:List (Option Addr×Nat)}(h:SJ v w0 gp P Z l)(hb:Below v.heap.size v v'):SJ v' w0 gp P Z l:=⟨fun p hp=>(h.rd p hp).below hb,h.cr.below hb,h.cp.below hb,h.b0.trans (hb.mono h.b0.size)⟩

theorem SJ.add {v w0:World}{gp:Nat}{P Z:Array Value}{l:List (Option Addr×Nat)}(h:SJ v w0 gp P Z l){a:Option Addr}{N:Nat}(r:Rd v a (D N)):SJ v w0 gp P Z ((a,N)::l):=⟨fun p hp=>by rcases List.mem_cons.1 hp with rfl|hp;exact r;exact h.rd p hp,h.cr,h.cp,h.b0⟩

theorem SJ.own {v w0 v':World}{gp:Nat}{P Z:Array Value}{l:List (Option Addr×Nat)}(h:SJ v w0 gp P Z l){a:Option Addr}{N c:Nat}(o:v'.ownsRow v.heap.size 25 1 (.slice a (D N).length c) (D N).length (U (D N)))(hb:Below v.heap.size v v'):SJ v' w0 gp P Z ((a,N)::l):=(h.below hb).add (Rd.own o)

theorem SJ.sub {v w0:World}{gp:Nat}{P Z:Array Value}{l m:List (Option Addr×Nat)}(h:SJ v w0 gp P Z l)(hm:∀p∈m,p∈l):SJ v w0 gp P Z m:=⟨fun p hp=>h.rd p (hm p hp),h.cr,h.cp,h.b0⟩

theorem QH {m C:Nat}{E0:Int}(hC:0<C)(h:M.un m (E0+1)<M.ud C (E0+1)):M.un m (E0-40+1)/M.ud C (E0-40+1)<10^40:=by
 have e:=M.pO m C hC (E0-40+1) 40;rw[show E0-40+1+((40:Nat):Int)=E0+1 by omega]at e;have z:M.uT m C (E0+1)=0:=Nat.div_eq_of_lt h;rw[z]at e;have:=(Nat.div_eq_zero_iff).1 e.symm;rcases this with k|k
 . exact absurd k (Nat.pos_iff_ne_zero.1 (Nat.pow_pos (by omega)))
 . exact k

theorem d40 {d:Nat}(h:d<10^40):(D d).length<=10:=aE d 161 10 (Nat.lt_trans h (oP 40)) (by omega)

theorem JZ (f:Int)(X:Nat)(T:M.Pt)(F:M.Fm)(C MM:Nat)(w:World)(hp0:F.p≠0)(hc:T.c=2\/T.c=3)(hq1:-16700<=T.q)(hq2:T.q<=16700)(hs:T.s<2^128)(hMM:MM=T.s*2^2*2^(T.q-2).toNat)(pC:0<C)(lS:(D T.s).length<=1000)(lM4:(D (T.s*2^2)).length<=1500)(lMM:(D MM).length<=1500)(lC:(D C).length<=1500)(hbM:aB MM<=20000)(hbC:aB C<=20000)(E0:Int)(lMI:(D (M.un MM (E0-40+1))).length<=2400)(lU:(D (M.ud C (E0-40+1))).length<=2400)(hE1:-8000<=E0)(hE2:E0<=8000)(hE:∀y,M.un MM y<M.ud C y↔E0<y)
 (kE:∀v:World,Calls Tryz.prog 9 #[.int .i64 f] v fun e w'=>e=.returned (dv F)/\Below v.heap.size v w')
 (kU:∀v:World,Calls Tryz.prog 67 #[.int .i64 f,.agg #[.int .u64 (M.hiN X:Int),.int .u64 (M.loN X:Int)]] v fun e w'=>e=.returned (pv T)/\Below v.heap.size v w')
 (kS:∀v:World,Calls Tryz.prog 119 #[.int .i64 f,pv T] v fun e w'=>∃A B,(D A).length<=1500/\(D B).length<=1500/\Sp3 v w' e A B C):
 Calls Tryz.prog 117 #[.int .i64 f,.agg #[.int .u64 (M.hiN X:Int),.int .u64 (M.loN X:Int)]] w fun e w'=>∃ds x n,((ds=[]/\x=0)\/(1<=ds.length/\ds.length<=100))/\ -9000<(ds.length:Int)+x/\(ds.length:Int)+x<9000/\ShR w w' e ds x n 0:=by
 obtain⟨cls,tn,ts,tq⟩:=T;simp only[dv,pv]at*;have hp1:¬(F.p:Int)=0:=by omega
 have hcl0:(cls==0)=false:=by rw[beq_eq_false_iff_ne];omega
 have hcl1:¬cls=0:=by omega
 have HC:=hid hc;have HMM:=hid hMM;have HE:=hid hE;clear hc hMM hE;have fd:=jQ;obtain⟨cw,cr,b0⟩:=Cls.new2 w #[.int .u64 (M.hiN X:Int),.int .u64 (M.loN X:Int)] #[.slice none 0 0,.int .i64 0,.bool false,.int .i64 0] 27 155;go_enter Tryz.func117,Tryz.ntmps117;go_wp2_with fail;refine(kE _).mono ?_;rintro e v1 ⟨rfl,hb⟩;replace cw:=cw.below hb;replace cr:=cr.below hb;replace b0:=b0.trans (hb.mono b0.size);have x0:=cw.cell 0 rfl;have x1:=cw.cell 1 rfl;clear hb;go_wp2_with fail;refine(kU _).mono ?_;rintro e v2 ⟨rfl,hb⟩;obtain⟨v3,h3⟩:∃v,v=v2.alloc (.cells #[.int .i64 cls,.bool tn,.int .u64 (M.hiN ts:Int),.int .u64 (M.loN ts:Int),.int .i64 tq] 67):=⟨_,rfl⟩;have hb2:Below v2.heap.size v2 v3:=by rw[h3];exact(Below.refl _ _).alloc (Nat.le_refl _) _
 have cp:Cls v3 v2.heap.size #[.int .i64 cls,.bool tn,.int .u64 (M.hiN ts:Int),.int .u64 (M.loN ts:Int),.int .i64 tq] 67:=by rw[h3];exact Cls.new _ _ _
 obtain⟨P,hP⟩:∃P:Array Value,P=#[.int .i64 cls,.bool tn,.int .u64 (M.hiN ts:Int),.int .u64 (M.loN ts:Int),.int .i64 tq]:=⟨_,rfl⟩;obtain⟨Z,hZ⟩:∃Z:Array Value,Z=#[.slice none 0 0,.int .i64 0,.bool false,.int .i64 0]:=⟨_,rfl⟩
 have J:=hid (show SJ v3 w v2.heap.size P Z []from⟨fun p hp=>(by cases hp),by rw[hZ];exact(cr.below hb).below hb2,by rw[hP];exact cp,(b0.trans (hb.mono b0.size)).trans (hb2.mono (Nat.le_trans b0.size hb.size))⟩)
 have HP:=hid hP;have HZ:=hid hZ;clear hP hZ;clear hb hb2 cw cr b0 x0 x1;go_upto_region 4 with fail;rw[<-h3];clear h3;generalize v2.heap.size=gp at*;have p0:=cp.cell 0 rfl;go_upto_region 6 with fail
 go_cut[47] (fun z wx=>z=.bool false/\v3=wx)
 case first=>
  as_aux_lemma=>
  rcases HC.out with rfl|rfl
  . go_wp2_with fail;go_meet
    case rel=>exact⟨rfl,rfl⟩
  . go_wp2_with fail;go_meet
    case rel=>exact⟨rfl,rfl⟩
 case rest=>
 as_aux_lemma=>
 obtain⟨rfl,rfl⟩:=hcut;clear HC hcl0 hcl1 cp p0;have p0:=J.out.cp.cell 0 (by rw[HP.out];rfl);have p1:=J.out.cp.cell 1 (by rw[HP.out];rfl);have p2:=J.out.cp.cell 2 (by rw[HP.out];rfl);have p3:=J.out.cp.cell 3 (by rw[HP.out];rfl);have p4:=J.out.cp.cell 4 (by rw[HP.out];rfl);go_wp2_with fail;refine(kS _).mono ?_;rintro e v4 ⟨A,B,lA,lB,la,lc,ha,hc,da,dc,rfl,rl,rh,rd,hb⟩;have J:=hid ((((J.out.below hb).add rl).add rh).add rd);clear hb rl rh rd p0 p1 p2 p3 p4 kS kU kE;have p2:=J.out.cp.cell 2 (by rw[HP.out];rfl);have p3:=J.out.cp.cell 3 (by rw[HP.out];rfl);have p4:=J.out.cp.cell 4 (by rw[HP.out];rfl);go_wp2_with fail;refine(gF ts hs _).mono ?_;rintro e v5 ⟨sa,sc,rfl,so,hb⟩;have J:=hid (J.out.own so hb);have kL:=hid (aN sa _ sc 2 ts v5 rfl (by omega) (by omega) (Rd.own so));clear so hb p2 p3 p4;go_wp2_with fail;refine kL.out.mono ?_;rintro e v6 ⟨ma,mc,rfl,mo,hb⟩;have J:=hid (J.out.own mo hb)
 have kL:=hid (fun(hq:2<tq)=>show Calls Tryz.prog 42 #[.slice ma (D (ts*2^2)).length mc,.int .i64 (tq-2)] v6 fun e w'=>Ret v6 w' e (D MM)from by
  have k:=aN ma _ mc (tq-2).toNat (ts*2^2) v6 rfl (by omega) (by omega) (Rd.own mo);rw[<-HMM.out,show(((tq-2).toNat:Nat):Int)=tq-2 by omega]at k
  exact k)
 have ME:=hid (fun(hq:tq<=2)=>show ts*2^2=MM from by rw[HMM.out,show(tq-2).toNat=0 by omega,Nat.pow_zero,Nat.mul_one])
 have hcm:=bF mo;have wq:IntKind.i64.wrap (tq-2)=tq-2:=by simp only[IntKind.wrap_i64];omega
 have p4:=J.out.cp.cell 4 (by rw[HP.out];rfl);clear mo hb;go_upto_if 64 with fail
 go_cut[9,64] (fun mv _ wx=>∃na nc,mv=.slice na (D MM).length nc/\(D MM).length<=nc/\SJ wx w gp P Z [(na,MM),(da,C),(ha,B),(la,A)])
 case first=>
  as_aux_lemma=>
  by_cases hq:2<tq
  . go_wp2_with fail;refine(kL.out hq).mono ?_;rintro e v7 ⟨na,nc,rfl,no,hb⟩;have J:=hid ((J.out.own no hb).sub (m:=[(na,MM),(da,C),(ha,B),(la,A)]) (by simp));have hcn:=bF no;clear no hb;go_wp2_with fail;go_meet;exact⟨_,_,rfl,hcn,J.out⟩
  . have e:=ME.out (by omega);have J:=hid (J.out.sub (m:=[(ma,ts*2^2),(da,C),(ha,B),(la,A)]) (by simp));rw[e]at J hcm|-;clear e;go_wp2_with fail;go_meet;exact⟨_,_,rfl,hcm,J.out⟩
 case rest=>
 as_aux_lemma=>
 rename World=>v8
 obtain⟨na,nc,rfl,hcn,j8⟩:=hcut;have J:=hid j8;clear j8 kL ME hcm p4 wq;go_wp2_with fail;refine(aW _ _ _ MM _ rfl (by omega) (J.out.rd (na,MM) (by simp)) _ rfl).mono ?_;rintro e vb ⟨rfl,rfl⟩;go_wp2_with fail;refine(aW _ _ _ C _ rfl (by omega) (J.out.rd (da,C) (by simp)) _ rfl).mono ?_;rintro e vc ⟨rfl,rfl⟩;obtain⟨gl,gh⟩:=M.uB_le ((aB MM:Int)-(aB C:Int)) (by omega) (by omega);obtain⟨g0,hg0⟩:∃g0:Int,g0=(((aB MM:Int)-(aB C:Int))*30103).tdiv 100000:=⟨_,rfl⟩;rw[<-hg0]at gl gh;go_wp2_with fail;rw[<-hg0];clear hg0
 have kT:=hid (fun(y:Int)(v:World) h1 h2 (hj:SJ v w gp P Z [(na,MM),(da,C),(ha,B),(la,A)])=>GM MM C y na da nc dc v h1 h2 (by omega) (by omega) (hj.rd (na,MM) (by simp)) (hj.rd (da,C) (by simp)))
 go_loopw [10] (fun ev wr=>∃e:Int,ev=.int .i64 e/\ -8500<=e/\e<=8500/\SJ wr w gp P Z [(na,MM),(da,C),(ha,B),(la,A)]) (fun ev _=>(intOf ev-E0).toNat)
 case atStart=>exact⟨g0,rfl,by omega,by omega,J.out⟩
 case round=>
 as_aux_lemma=>
 rename World=>wr
 clear J;obtain⟨e,rfl,h1,h2,j⟩:=hrel;have J:=hid j;have we:IntKind.i64.wrap (e-1)=e-1:=by simp only[IntKind.wrap_i64];omega
 clear j
 by_cases he:E0<e
 . have ht:decide (M.un MM e<M.ud C e)=true:=decide_eq_true ((HE.out e).2 he);go_wp2_with fail;refine(kT.out e _ (by omega) (by omega) J.out).mono ?_;rw[ht];rintro r wq ⟨rfl,hb⟩;have J:=hid (J.out.below hb);clear hb ht;go_wp2_with fail;go_roundw
   case rel=>exact⟨e-1,rfl,by omega,by omega,J.out⟩
   case measure=>simp[intOf];omega
 . have ht:decide (M.un MM e<M.ud C e)=false:=decide_eq_false (fun x=>he ((HE.out e).1 x))
   go_wp2_with fail;refine(kT.out e _ (by omega) (by omega) J.out).mono ?_;rw[ht];rintro r wq ⟨rfl,hb⟩;have J:=hid (J.out.below hb);clear hb ht we;go_wp2_with fail
   go_loopw [10] (fun ev wr=>∃e:Int,ev=.int .i64 e/\ -8500<=e/\e<=E0/\SJ wr w gp P Z [(na,MM),(da,C),(ha,B),(la,A)]) (fun ev _=>(E0-intOf ev).toNat)
   case atStart=>exact⟨e,rfl,by omega,by omega,J.out⟩
   case round=>
   as_aux_lemma=>
   rename World=>ws
   clear J h1 h2 he;obtain⟨e,rfl,h1,h2,j⟩:=hrel;have J:=hid j;have we:IntKind.i64.wrap (e+1)=e+1:=by simp only[IntKind.wrap_i64];omega
   clear j
   by_cases he:e<E0
   . have ht:decide (M.un MM (e+1)<M.ud C (e+1))=false:=decide_eq_false (fun x=>by have:=(HE.out (e+1)).1 x;omega)
     go_wp2_with fail;refine(kT.out (e+1) _ (by omega) (by omega) J.out).mono ?_;rw[ht];rintro r wq ⟨rfl,hb⟩;have J:=hid (J.out.below hb);clear hb ht;go_wp2_with fail;go_roundw
     case rel=>exact⟨e+1,rfl,by omega,by omega,J.out⟩
     case measure=>simp[intOf];omega
   . have ee:e=E0:=by omega
     subst ee;have ht:decide (M.un MM (e+1)<M.ud C (e+1))=true:=decide_eq_true ((HE.out (e+1)).2 (by omega));go_wp2_with fail;refine(kT.out (e+1) _ (by omega) (by omega) J.out).mono ?_;rw[ht];rintro r wq ⟨rfl,hb⟩;have J:=hid (J.out.below hb);clear hb ht we he;have w1:IntKind.i64.wrap (e-40)=e-40:=by simp only[IntKind.wrap_i64];omega
     obtain⟨UN,hUN⟩:∃x,e-40+1=x:=⟨_,rfl⟩;have w2:IntKind.i64.wrap (e-40+1)=UN:=by rw[<-hUN];simp only[IntKind.wrap_i64];omega
     obtain⟨MI,hMI⟩:∃x,M.un MM UN=x:=⟨_,rfl⟩;obtain⟨U,hU⟩:∃x,M.ud C UN=x:=⟨_,rfl⟩;have whl:=QH pC ((HE.out (e+1)).2 (by omega));rw[hUN]at lMI lU whl;rw[hMI]at lMI;rw[hU]at lU;rw[hMI,hU]at whl;have pU:0<U:=by rw[<-hU];exact M.iE pC UN
     have HU:=hid hU;have HMI:=hid hMI;have WHL:=hid whl;have u1:-8039<=UN:=by omega
     have u2:UN<=7961:=by omega
     clear hU hMI whl HE kT hUN;obtain⟨up,hup⟩:∃b,decide (0<=UN)=b:=⟨_,rfl⟩;go_upto_if 97 with fail
     go_cut[6,7,9,13,14] (fun lv hv mv uv _ wx=>∃la2 lc2 LO ha2 hc2 HI na2 nc2 ua uc,lv=.slice la2 (D LO).length lc2/\hv=.slice ha2 (D HI).length hc2/\mv=.slice na2 (D MI).length nc2/\uv=.slice ua (D U).length uc/\(D LO).length<=5000/\(D HI).length<=5000/\(D MI).length<=nc2/\SJ wx w gp P Z [(la2,LO),(ha2,HI),(na2,MI),(ua,U),(da,C)])
     case first=>
      as_aux_lemma=>
      cases up with
      |true=>
       have hu:0<=UN:=of_decide_eq_true hup
       have kt:=hid (fun v:World=>show Calls Tryz.prog 23 #[.int .i64 UN] v fun e w'=>Ret v w' e (D (10^UN.toNat))from by
        have k:=dO UN.toNat v (by omega)
        rw[show((UN.toNat:Nat):Int)=UN by omega]at k;exact k)
       have e1:MI=MM:=by rw[<-HMI.out,M.un,show(-UN).toNat=0 by omega,Nat.pow_zero,Nat.mul_one]
       have lt:(D (10^UN.toNat)).length<=2401:=iW 10 _ (gN _ (by omega));have eU:10^UN.toNat*C=U:=by rw[<-HU.out,M.ud,Nat.mul_comm]
       have EU:=hid eU;clear hup eU;go_wp2_with fail;refine(kt.out _).mono ?_;rintro r y1 ⟨ta,tc,rfl,ot,hb⟩;have J:=hid (J.out.own ot hb)
       have km:=hid (show Calls Tryz.prog 22 #[.slice ta (D (10^UN.toNat)).length tc,.slice da (D C).length dc] y1 fun e w'=>Ret y1 w' e (D U)from by
        have k:=cI ta da _ _ tc dc (10^UN.toNat) C y1 rfl rfl (by omega) (by omega) (J.out.rd (ta,_) (by simp)) (J.out.rd (da,C) (by simp))
        rw[EU.out]at k;exact k)
       clear ot hb kt;go_wp2_with fail;refine km.out.mono ?_;rintro r y2 ⟨ua,uc,rfl,ou,hb⟩;have J:=hid ((J.out.own ou hb).sub (m:=[(la,A),(ha,B),(na,MM),(ua,U),(da,C)]) (by simp));clear ou hb km;go_wp2_with fail;go_meet;exact⟨la,lc,A,ha,hc,B,na,nc,ua,uc,rfl,rfl,by rw[e1],rfl,by omega,by omega,by rw[e1];exact hcn,by rw[e1];exact J.out⟩
      |false=>
       have hu:¬0<=UN:=of_decide_eq_false hup;have hn:IntKind.i64.wrap (-UN)= -UN:=by simp only[IntKind.wrap_i64];omega
       obtain⟨tk,htk⟩:∃x,10^(-UN).toNat=x:=⟨_,rfl⟩
       have kt:=hid (fun v:World=>show Calls Tryz.prog 23 #[.int .i64 (-UN)] v fun e w'=>Ret v w' e (D tk)from by
        have k:=dO (-UN).toNat v (by omega)
        rw[show(((-UN).toNat:Nat):Int)= -UN by omega,htk]at k;exact k)
       have lt:(D tk).length<=2401:=by rw[<-htk];exact iW 10 _ (gN _ (by omega))
       have e1:MM*tk=MI:=by rw[<-HMI.out,<-htk];rfl
       have eU:U=C:=by rw[<-HU.out,M.ud,show UN.toNat=0 by omega,Nat.pow_zero,Nat.mul_one]
       have E1:=hid e1;have EU:=hid eU;have lA2:=cC A tk 1500 2401 lA lt;have lB2:=cC B tk 1500 2401 lB lt
       have km:=hid (fun(N:Nat)(lN:(D N).length<=1500)(x y:Option Addr)(cx cy:Nat)(v:World) h1 h2=>cI x y _ _ cx cy N tk v rfl rfl (by omega) (by omega) h1 h2)
       clear hup e1 eU htk;go_wp2_with fail;refine(kt.out _).mono ?_;rintro r y1 ⟨ta,tc,rfl,ot,hb⟩;have J:=hid (J.out.own ot hb);clear ot hb kt;go_wp2_with fail;refine(km.out A lA _ _ _ _ _ (J.out.rd (la,A) (by simp)) (J.out.rd (ta,tk) (by simp))).mono ?_;rintro r y2 ⟨la2,lc2,rfl,o2,hb⟩;have J:=hid (J.out.own o2 hb);clear o2 hb;go_wp2_with fail;refine(km.out B lB _ _ _ _ _ (J.out.rd (ha,B) (by simp)) (J.out.rd (ta,tk) (by simp))).mono ?_;rintro r y3 ⟨ha2,hc2,rfl,o2,hb⟩;have J:=hid (J.out.own o2 hb);clear o2 hb;go_wp2_with fail;refine(km.out MM lMM _ _ _ _ _ (J.out.rd (na,MM) (by simp)) (J.out.rd (ta,tk) (by simp))).mono ?_;rw[E1.out];rintro r y4 ⟨na2,nc2,rfl,o2,hb⟩;have J:=hid ((J.out.own o2 hb).sub (m:=[(la2,A*tk),(ha2,B*tk),(na2,MI),(da,C)]) (by simp));have hc2':=bF o2;clear o2 hb km;go_wp2_with fail;go_meet;exact⟨la2,lc2,A*tk,ha2,hc2,B*tk,na2,nc2,da,dc,rfl,rfl,rfl,by rw[EU.out],by omega,by omega,hc2',by rw[EU.out];exact J.out.sub (by simp)⟩
     case rest=>
      as_aux_lemma=>
      rename World=>x0
      obtain⟨la2,lc2,LO,ha2,hc2,HI,na2,nc2,ua,uc,rfl,rfl,rfl,rfl,lLO,lHI,hcn2,j0⟩:=hcut;have J:=hid j0;clear j0 lA lB lM4 lMM lS hcn HMI HU;go_wp2_with fail;refine(qD _ _ _ _ _ _ MI U _ rfl rfl pU (by omega) (by omega) hcn2 (J.out.rd (na2,MI) (by simp)) (J.out.rd (ua,U) (by simp))).mono ?_;rintro r x1 ⟨wa,wc,sa2,sc2,rfl,rw',_,hb,hcw⟩;obtain⟨WH,hWH⟩:∃x,MI/U=x:=⟨_,rfl⟩;have J:=hid ((J.out.below hb).add rw');rw[hWH]at J WHL hcw|-;have p3:=J.out.cp.cell 3 (by rw[HP.out];rfl);obtain⟨CL,hCL⟩:∃b,((M.loN ts:Int)%2==0)=b:=⟨_,rfl⟩;clear hb rw' hWH;go_wp2_with fail
      go_loopw [18] (fun nv wr=>∃n:Nat,nv=.int .i64 (n:Int)/\1<=n/\n<=40/\SJ wr w gp P Z [(wa,WH),(la2,LO),(ha2,HI),(na2,MI),(ua,U),(da,C)]) (fun nv _=>(40-intOf nv).toNat)
      case atStart=>exact⟨1,rfl,by omega,by omega,J.out.sub (by simp)⟩
      case round=>
      as_aux_lemma=>
      rename World=>wr
      clear J p3;obtain⟨n,rfl,n1,n2,j⟩:=hrel;have J:=hid j;clear j
      by_cases n3:n<40
      . have n3':(n:Int)<40:=by omega
        have wn:IntKind.i64.wrap (40-(n:Int))=40-(n:Int):=by simp only[IntKind.wrap_i64];omega
        have wn1:IntKind.i64.wrap ((n:Int)+1)=(n:Int)+1:=by simp only[IntKind.wrap_i64];omega
        obtain⟨st,hst⟩:∃x,10^(40-n)=x:=⟨_,rfl⟩
        have kt:=hid (fun v:World=>show Calls Tryz.prog 23 #[.int .i64 (40-(n:Int))] v fun e w'=>Ret v w' e (D st)from by
         have k:=dO (40-n) v (by omega)
         rw[show((40-n:Nat):Int)=40-(n:Int) by omega,hst]at k;exact k)
        have pst:0<st:=by rw[<-hst];exact Nat.pow_pos (by omega)
        have lst:(D st).length<=10:=by rw[<-hst];exact aE _ (4*(40-n)+1) 10 (oP _) (by omega)
        obtain⟨d,hd⟩:∃x,WH/st=x:=⟨_,rfl⟩;have ld0:d<10^40:=by rw[<-hd];exact Nat.lt_of_le_of_lt (Nat.div_le_self _ _) WHL.out
        have ld:=d40 ld0;have lw:=d40 WHL.out;have l1:(D 1).length<=10:=aE 1 1 10 (by omega) (by omega);have lp:=mM d 1 10 ld l1;have lb1:=cC d st 10 10 ld lst;have lb2:=cC (d+1) st 11 10 lp lst;have LD:=hid ld0;clear hst ld0;go_wp2_with fail;refine(kt.out _).mono ?_;rintro r y1 ⟨ta,tc,rfl,ot,hb⟩;have J:=hid (J.out.own ot hb);clear ot hb kt;go_wp2_with fail;refine(qD _ _ _ _ _ _ WH st _ rfl rfl pst (by omega) (by omega) hcw (J.out.rd (wa,WH) (by simp)) (J.out.rd (ta,st) (by simp))).mono ?_;rw[hd];rintro r y2 ⟨qa,qc,ra,rc,rfl,rq,_,hb,hcq⟩;have J:=hid ((J.out.below hb).add rq);clear rq hb hd;go_wp2_with fail;refine(aU 1 _ (by omega)).mono ?_;rintro r y3 ⟨oa,oc,rfl,oo,hb⟩;have J:=hid (J.out.own oo hb);clear oo hb;go_wp2_with fail;refine(cJ qa oa _ _ qc oc d 1 _ rfl rfl (by omega) (by omega) (J.out.rd (qa,d) (by simp)) (J.out.rd (oa,1) (by simp))).mono ?_;rintro r y4 ⟨pa,pc,rfl,op,hb⟩;have J:=hid ((J.out.own op hb).sub (m:=[(pa,d+1),(qa,d),(ta,st),(wa,WH),(la2,LO),(ha2,HI),(na2,MI),(ua,U),(da,C)]) (by simp));clear op hb;obtain⟨d1,hd1⟩:∃x,d+1=x:=⟨_,rfl⟩;rw[hd1]at J lp lb2|-;have HD1:=hid hd1;clear hd1;go_wp2_with fail;refine(cI qa ta _ _ qc tc d st _ rfl rfl (by omega) (by omega) (J.out.rd (qa,d) (by simp)) (J.out.rd (ta,st) (by simp))).mono ?_;rintro r y5 ⟨ga,gc,rfl,og,hb⟩;have J:=hid (J.out.own og hb);have kI:=hid (oU (d*st) U LO HI C up CL ga ua la2 ha2 da gc uc lc2 hc2 dc y5 (by omega) (by omega) (by omega) (by omega) (by omega) (J.out.rd (ga,d*st) (by simp)) (J.out.rd (ua,U) (by simp)) (J.out.rd (la2,LO) (by simp)) (J.out.rd (ha2,HI) (by simp)) (J.out.rd (da,C) (by simp)));clear og hb;obtain⟨f1,hf1⟩:∃b,wIn (d*st*(if up then U else C)) LO HI CL=b:=⟨_,rfl⟩;rw[hf1]at kI;clear hf1;go_wp2_with fail;refine kI.out.mono ?_;rintro r y6 ⟨rfl,hb⟩;have J:=hid (J.out.below hb);clear hb kI;go_wp2_with fail;refine(cI pa ta _ _ pc tc d1 st _ rfl rfl (by omega) (by omega) (J.out.rd (pa,d1) (by simp)) (J.out.rd (ta,st) (by simp))).mono ?_;rintro r y7 ⟨ga3,gc3,rfl,og,hb⟩;have J:=hid (J.out.own og hb);have kI:=hid (oU (d1*st) U LO HI C up CL ga3 ua la2 ha2 da gc3 uc lc2 hc2 dc y7 (by omega) (by omega) (by omega) (by omega) (by omega) (J.out.rd (ga3,d1*st) (by simp)) (J.out.rd (ua,U) (by simp)) (J.out.rd (la2,LO) (by simp)) (J.out.rd (ha2,HI) (by simp)) (J.out.rd (da,C) (by simp)));clear og hb;obtain⟨f2,hf2⟩:∃b,wIn (d1*st*(if up then U else C)) LO HI CL=b:=⟨_,rfl⟩;rw[hf2]at kI;clear hf2;go_wp2_with fail;refine kI.out.mono ?_;rintro r y8 ⟨rfl,hb⟩;have J:=hid ((J.out.below hb).sub (m:=[(pa,d1),(qa,d),(ta,st),(wa,WH),(la2,LO),(ha2,HI),(na2,MI),(ua,U),(da,C)]) (by simp));clear hb kI;go_upto_region 36 with fail
        go_cut[166] (fun cv wx=>cv=.bool (!f1 && !f2)/\y8=wx)
        case first=>
         as_aux_lemma=>
         cases f1<;>cases f2<;>(go_wp2_with fail;go_meet;exact⟨rfl,rfl⟩)
        case rest=>
        as_aux_lemma=>
        obtain⟨rfl,rfl⟩:=hcut
        cases hct:(!f1 && !f2)with
        |true=>
         clear hct;go_wp2_with fail;go_roundw
         case rel=>exact⟨n+1,by simp,by omega,by omega,J.out.sub (by simp)⟩
         case measure=>simp[intOf];omega
        |false=>
         clear hct;go_upto_region 37 with fail
         go_cut[170] (fun cv wx=>cv=.bool (f1 && f2)/\y8=wx)
         case first=>
          as_aux_lemma=>
          cases f1<;>cases f2<;>(go_wp2_with fail;go_meet;exact⟨rfl,rfl⟩)
         case rest=>
         as_aux_lemma=>
         obtain⟨rfl,rfl⟩:=hcut;go_upto_if 170 with fail
         go_cut[24,25,170] (fun hv _ _ wx=>(∃b:Bool,hv=.bool b)/\SJ wx w gp P Z [(pa,d1),(qa,d)])
         case first=>
          as_aux_lemma=>
          cases hbt:(f1 && f2)with
          |false=>
           clear hbt;go_wp2_with fail;go_meet;exact⟨⟨_,rfl⟩,J.out.sub (by simp)⟩
          |true=>
           have lsm:=mM d d1 11 (by omega) lp;have lsp:=cC (d+d1) st 12 10 lsm lst;have lmm:(D (MI*2^1)).length<=20000:=by rw[Nat.pow_one,Nat.mul_two];exact Nat.le_trans (mM MI MI 2400 lMI lMI) (by omega)
           clear hbt;go_wp2_with fail;refine(cJ qa pa _ _ qc pc d d1 _ rfl rfl (by omega) (by omega) (J.out.rd (qa,d) (by simp)) (J.out.rd (pa,d1) (by simp))).mono ?_;rintro r z1 ⟨sa3,sc3,rfl,o3,hb⟩;have J:=hid (J.out.own o3 hb);clear o3 hb;go_wp2_with fail;refine(cI sa3 ta _ _ sc3 tc (d+d1) st _ rfl rfl (by omega) (by omega) (J.out.rd (sa3,d+d1) (by simp)) (J.out.rd (ta,st) (by simp))).mono ?_;rintro r z2 ⟨sa4,sc4,rfl,o3,hb⟩;have J:=hid (J.out.own o3 hb);clear o3 hb;go_wp2_with fail;refine(aN na2 _ nc2 1 MI _ rfl (by omega) (by omega) (J.out.rd (na2,MI) (by simp))).mono ?_;rintro r z3 ⟨sa5,sc5,rfl,o3,hb⟩;have J:=hid (J.out.own o3 hb);have kC:=hid (jR ((d+d1)*st) U (MI*2^1) C up sa4 ua sa5 da sc4 uc sc5 dc z3 (by omega) (by omega) lmm (by omega) (J.out.rd (sa4,(d+d1)*st) (by simp)) (J.out.rd (ua,U) (by simp)) (J.out.rd (sa5,MI*2^1) (by simp)) (J.out.rd (da,C) (by simp)));obtain⟨cz,hcz⟩:∃z,aY (((d+d1)*st*(if up then U else C):Nat):Int) ((MI*2^1:Nat):Int)=z:=⟨_,rfl⟩;rw[hcz]at kC;clear o3 hb hcz;go_wp2_with fail;refine kC.out.mono ?_;rintro r z4 ⟨rfl,hb⟩;have J:=hid ((J.out.below hb).sub (m:=[(pa,d1),(qa,d)]) (by simp));have kAt:=hid (cO qa _ qc 0 (D d) z4 rfl (by omega) (by omega) (J.out.rd (qa,d) (by simp)) (d%4294967296) (by rw[yF];simp));clear hb kC
           by_cases c1:cz<0
           . have c1':decide (cz<0)=true:=decide_eq_true c1;go_wp2_with fail;go_meet;exact⟨⟨_,rfl⟩,J.out⟩
           . have c1':decide (cz<0)=false:=decide_eq_false c1
             by_cases c2:cz=0
             . subst c2;go_wp2_with fail;refine kAt.out.mono ?_;rintro e1 y5 ⟨rfl,rfl⟩;go_wp2_with fail;go_meet;exact⟨⟨_,rfl⟩,J.out⟩
             . have c2':(cz==0)=false:=by simpa using c2
               go_wp2_with fail;go_meet;exact⟨⟨_,rfl⟩,J.out⟩
         case rest=>
         as_aux_lemma=>
         rename World=>q1
         obtain⟨⟨b,rfl⟩,j⟩:=hcut;have J:=hid j;clear j;go_upto_if 194 with fail
         go_cut[20,194] (fun dv _ wx=>∃ka kc Pk,dv=.slice ka (D Pk).length kc/\Pk<=10^40/\SJ wx w gp P Z [(ka,Pk)])
         case first=>
          as_aux_lemma=>
          cases b with
          |true=>
           go_wp2_with fail;go_meet;exact⟨pa,pc,d1,rfl,by have:=LD.out;have:=HD1.out;omega,J.out.sub (by simp)⟩
          |false=>
           go_wp2_with fail;go_meet;exact⟨qa,qc,d,rfl,Nat.le_of_lt LD.out,J.out.sub (by simp)⟩
         case rest=>
         as_aux_lemma=>
         rename World=>q2
         obtain⟨ka,kc,Pk,rfl,lPk,j⟩:=hcut;have J:=hid j;have lk:(D Pk).length<=10:=aE Pk 161 10 (Nat.lt_of_le_of_lt lPk (oP 40)) (by omega);have tl1:=M.lY 40 Pk (Nat.lt_of_le_of_lt lPk (Nat.pow_lt_pow_right (by omega) (by omega)));have tl2:=M.qT Pk
         have HT:=hid (fun x (hx:x∈M.txt Pk)=>show x<256 from by have:=M.C8 Pk x hx;omega)
         clear j lPk;go_wp2_with fail;refine(fS _ _ _ Pk _ rfl (by omega) (J.out.rd (ka,Pk) (by simp))).mono ?_;rintro r z1 ⟨⟨xa,xc,rfl,rY,lcp,hb⟩,-⟩;have J:=hid (J.out.below hb);obtain⟨xb,xf,rfl,hX⟩:=rY tl2;obtain⟨xs,hxs⟩:∃xs,M.txt Pk=xs:=⟨_,rfl⟩;rw[hxs]at hX lcp tl1 tl2 HT|-;obtain⟨TL,hTL⟩:∃x,xs.length=x:=⟨_,rfl⟩;rw[hTL]at hX lcp tl1 tl2|-;have HX:=hid hX;have HTL:=hid hTL;have w3:IntKind.i64.wrap (e-(n:Int))=e-(n:Int):=by simp only[IntKind.wrap_i64];omega
         have w4:IntKind.i64.wrap (e-(n:Int)+1)=e-(n:Int)+1:=by simp only[IntKind.wrap_i64];omega
         clear hb rY hX hxs hTL;go_wp2_with fail
         go_loopw [26,27] (fun tv ev wr=>∃k:Nat,k<TL/\tv=.slice (some ⟨xb,xf,none⟩) (TL-k) xc/\ev=.int .i64 (e-(n:Int)+1+(k:Int))/\z1=wr) (fun tv _ _=>eO tv)
         case atStart=>exact⟨0,by omega,by rw[Nat.sub_zero],by simp,rfl⟩
         case round=>
          as_aux_lemma=>
          obtain⟨k,hk,rfl,rfl,rfl⟩:=hrel;obtain⟨m,hm⟩:∃m,TL-k=m+1:=⟨TL-k-1,by omega⟩;rw[hm];have hc:=HX.out m (by omega);obtain⟨y,hy⟩:∃y,xs.getD m 0=y:=⟨_,rfl⟩;rw[hy]at hc;have wm:IntKind.i64.wrap (((m+1:Nat):Int)-1)=(m:Int):=by simp only[IntKind.wrap_i64];omega
          have wk:IntKind.i64.wrap (e-(n:Int)+1+(k:Int)+1)=e-(n:Int)+1+(k:Int)+1:=by simp only[IntKind.wrap_i64];omega
          have hmc:m<=xc:=by omega
          have hmc':(m:Int)<=(xc:Int):=by omega
          clear hy;go_upto_region 44 with fail
          go_cut[213] (fun cv wx=>(∃b:Bool,cv=.bool b/\(b=true->0<m))/\z1=wx)
          case first=>
           as_aux_lemma=>
           by_cases h1:m=0
           . subst h1;go_wp2_with fail;go_meet
             exact⟨⟨false,rfl,fun h=>by cases h⟩,rfl⟩
           . have hm1:(1:Int)<((m+1:Nat):Int):=by omega
             have hm2:(m:Int)<((m+1:Nat):Int):=by omega
             have h0:0<m:=by omega
             go_wp2_with fail;go_meet
             exact⟨⟨_,rfl,fun _=>h0⟩,rfl⟩
          case rest=>
           as_aux_lemma=>
           obtain⟨⟨bb,rfl,hbb⟩,rfl⟩:=hcut
           cases bb with
           |true=>
            have h0:=hbb rfl;clear hbb;go_wp2_with fail;go_roundw
            case rel=>exact⟨k+1,by omega,by congr 1;omega,by congr 1;simp;omega,by trivial⟩
            case measure=>simp[eO]
           |false=>
            as_aux_lemma=>
            have cr:Cls z1 (w.heap.size+1) #[.slice none 0 0,.int .i64 0,.bool false,.int .i64 0] 155:=by have:=J.out.cr;rw[HZ.out]at this;exact this
            have cp:Cls z1 gp #[.int .i64 cls,.bool tn,.int .u64 (M.hiN ts:Int),.int .u64 (M.loN ts:Int),.int .i64 tq] 67:=by have:=J.out.cp;rw[HP.out]at this;exact this
            have b0:=J.out.b0;obtain⟨ds,hds⟩:∃ds,ds=xs.take (m+1):=⟨_,rfl⟩;have hdl:ds.length=m+1:=by rw[hds,List.length_take,HTL.out];omega
            have hx256:∀x∈ds,x<256:=fun x hx=>HT.out x (by rw[hds]at hx;exact List.mem_of_mem_take hx)
            have rS:RdB z1 (some ⟨xb,xf,none⟩) ds:=⟨hx256,fun _=>⟨xb,xf,rfl,fun i hi=>by
             have hi2:i<m+1:=by omega
             have e1:ds.getD i 0=xs.getD i 0:=by rw[hds,List.getD_eq_getElem?_getD,List.getD_eq_getElem?_getD,List.getElem?_take,if_pos hi2]
             show z1.cell? _=some (.int .u8 ((ds.getD i 0:Nat):Int))
             rw[e1];exact HX.out i (by omega)⟩⟩
            have HLD:=hid hdl;have PL:=hid (show-9000<((m+1:Nat):Int)+(e-(n:Int)+1+(k:Int))/\((m+1:Nat):Int)+(e-(n:Int)+1+(k:Int))<9000/\m+1<=100 by omega);have lz:w.heap.size+1<z1.heap.size:=cr.lt
            have D1:∀v,Below z1.heap.size z1 v->(fun v:World=>v.cell? ⟨gp,1,none⟩=some (.bool tn)) v:=fun v hv=>(cp.below hv).cell 1 rfl
            have hdr:Below z1.heap.size z1 z1.drew:=(Below.refl _ _).drew
            have hgn:gp≠w.heap.size+1:=fun hh=>by
             rw[hh]at cp;have:=cp.symm.trans cr
             simp at this
            have K4:∀(v:World) u0 u1 u2 u3',(fun v:World=>v.cell? ⟨gp,1,none⟩=some (.bool tn)) v->(fun v:World=>v.cell? ⟨gp,1,none⟩=some (.bool tn)) ((((v.setCell ⟨w.heap.size+1,0,none⟩ u0).setCell ⟨w.heap.size+1,1,none⟩ u1).setCell ⟨w.heap.size+1,2,none⟩ u2).setCell ⟨w.heap.size+1,3,none⟩ u3'):=fun v _ _ _ _ h=>(Q8 hgn).trans h
            clear hbb hds hdl hc wm wk hmc hmc' J HX HTL HT;go_wp2_with fail
            go_region_held3 (fun v:World=>v.cell? ⟨gp,1,none⟩=some (.bool tn)) (first|with_reducible exact D1 _ (by assumption)|with_reducible exact K4 _ _ _ _ _ (D1 _ (by assumption)))
             ((refine JE rfl _ _ rfl _ rfl ⟨xb,xf,none⟩ _ xc ds rfl (by have:=HLD.out;omega) (by omega) (by omega) (rS.below hdr) ?_;intro ra1 rc1 wB own bB';have hb1:=hdr.trans (bB'.mono (Nat.le_refl _));have r4:=cr.below hb1;have r0:=r4.cell 0 rfl;have r1:=r4.cell 1 rfl;have r2:=r4.cell 2 rfl;have r3:=r4.cell 3 rfl;have f0:=r4.frozen 0;have f1:=r4.frozen 1;have f2:=r4.frozen 2;have f3:=r4.frozen 3))
            have ov:=PN own HLD.out hx256;have lsz:w.heap.size+1<z1.drew.heap.size:=by simpa using lz
            replace b0:=b0.trans (hb1.mono b0.size);have HOV:=hid ov;have HB0:=hid b0;clear own ov b0 rS hx256 D1 K4 hdr hb1 r4;go_wp2_with fail;refine bodyPost_ret (v:=.agg #[.slice (some ⟨ra1,0,none⟩) (m+1) rc1,.int .i64 (e-(n:Int)+1+(k:Int)),.bool tn,.int .i64 0]) (by simp[results,Tryz.results117,go_sem,r0,r1,r2,r3]) rfl ?_;have hfin:=And.intro ((HOV.out.far4y lsz (.slice (some ⟨ra1,0,none⟩) (m+1) rc1) (.int .i64 (e-(n:Int)+1+(k:Int))) (.bool tn) (.int .i64 0)).low (show w.heap.size<=_ by omega)) (CU HB0.out (show w.heap.size<=w.heap.size+1 by omega) (.slice (some ⟨ra1,0,none⟩) (m+1) rc1) (.int .i64 (e-(n:Int)+1+(k:Int))) (.bool tn) (.int .i64 0));obtain⟨q1,q2,q3⟩:=PL.out;refine⟨ds,e-(n:Int)+1+(k:Int),tn,.inr ⟨by rw[HLD.out];omega,by rw[HLD.out];exact q3⟩,by rw[HLD.out];exact q1,by rw[HLD.out];exact q2,some ⟨ra1,0,none⟩,rc1,by rw[HLD.out],hfin⟩
      . as_aux_lemma=>
        have n4:¬(n:Int)<40:=by omega
        have cr:Cls wr (w.heap.size+1) #[.slice none 0 0,.int .i64 0,.bool false,.int .i64 0] 155:=by have:=J.out.cr;rw[HZ.out]at this;exact this
        have r0:=cr.cell 0 rfl;have r1:=cr.cell 1 rfl;have r2:=cr.cell 2 rfl;have r3:=cr.cell 3 rfl;have f0:=cr.frozen 0;have f1:=cr.frozen 1;have f2:=cr.frozen 2;have f3:=cr.frozen 3;have HB0:=hid J.out.b0;clear J;go_wp2_with fail;refine bodyPost_ret (v:=.agg #[.slice none 0 0,.int .i64 0,.bool false,.int .i64 0]) (by simp[results,Tryz.results117,go_sem,r0,r1,r2,r3]) rfl ?_;exact⟨[],0,.inl ⟨rfl,rfl⟩,by simp,by simp,.inl ⟨none,0,rfl,OwnV.nil _ _,CU HB0.out (show w.heap.size<=w.heap.size+1 by omega) (.slice none 0 0) (.int .i64 0) (.bool false) (.int .i64 0)⟩⟩

end Go.Proofs.YtfdgkleoaehjaaaGreatDoor
