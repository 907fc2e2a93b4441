import Derived.Test.YtfdgkleoaehjaaaGreatDoorfGAC
set_option maxHeartbeats 1000000
namespace Go.Proofs.YtfdgkleoaehjaaaGreatDoor
open Go.RowKit
set_option linter.unusedVariables false
set_option maxRecDepth 100000

theorem mL (w:World)(xs:List Nat):Blk (w.alloc (.cells (U xs).toArray 25)) w.heap.size xs:=heap_alloc_new w _

theorem aU (x:Nat)(w:World)(h:x<18446744073709551616):
 Calls Tryz.prog 21 #[.int .u64 (x:Int)] w fun e w'=>Ret w w' e (D x):=by
 have hlow:bits BinOp.and IntKind.u64 (x:Int) 4294967295=((x%4294967296:Nat):Int):=by
  rw[and_low32 _ (by omega) (by omega)];omega
 have hhi:(x:Int)/4294967296=((x/4294967296:Nat):Int):=by omega
 have hB:=mL w [x%4294967296,x/4294967296];have hb:Below w.heap.size w (w.alloc (.cells (U [x%4294967296,x/4294967296]).toArray 25)):=(Below.refl _ _).alloc (Nat.le_refl _) _;have hU:(U [x%4294967296,x/4294967296]).toArray=#[Value.int .u64 ((x%4294967296:Nat):Int),Value.int .u64 ((x/4294967296:Nat):Int)]:=rfl;rw[hU]at hB hb;have hv:M.val 4294967296 [x%4294967296,x/4294967296]=x:=by simp[M.val];omega
 have hf:F32 [x%4294967296,x/4294967296]:=by intro y hy;simp at hy;omega
 obtain⟨lo,elo⟩:∃lo:Nat,lo=x%4294967296:=⟨_,rfl⟩;obtain⟨hi,ehi⟩:∃hi:Nat,hi=x/4294967296:=⟨_,rfl⟩;rw[<-elo,<-ehi]at hB hb hv hf;rw[<-elo]at hlow;rw[<-ehi]at hhi;have HV:=hid hv;clear hv hU elo ehi;go_enter Tryz.func21,Tryz.ntmps21;go_wp2_with fail;refine(bZ 4294967296 (by omega) _ 2 2 [lo,hi] _ rfl (by omega) (by omega) hf hB.rd0).mono ?_;rw[HV.out];rintro e w1 ⟨ao',cap',rfl,ho,hb'⟩;go_wp2_with fail;go_ret;exact⟨ao',cap',rfl,aM ho hb.size,hb.trans (hb'.mono hb.size)⟩

theorem aW (ao:Option Addr)(n c:Nat)(a:Nat)(w:World)(hl:(D a).length=n)(hn:n<=1048576)(hr:Rd w ao (D a))(b:Nat)(hb:b=aB a):
 Calls Tryz.prog 56 #[.slice ao n c] w fun e w'=>e=.returned (.int .i64 (b:Int))/\w'=w:=by
 by_cases h0:n=0
 . subst h0
   have ha:a=0:=by
    rcases Nat.eq_zero_or_pos a with h|h
    . exact h
    . unfold D at hl;rw[M.aV (by omega) h]at hl;simp at hl
   have hb0:b=0:=by rw[hb,ha,fJ]
   subst hb0;clear hb ha hl hr;go_enter Tryz.func56,Tryz.ntmps56;go_wp2_with fail;go_ret;exact⟨rfl,rfl⟩
 . obtain⟨m,rfl⟩:∃m,n=m+1:=⟨n-1,by omega⟩
   have ha:0<a:=by
    rcases Nat.eq_zero_or_pos a with h|h
    . rw[h]at hl;simp[D,M.aH]at hl
    . exact h
   have hbl:=OQ a ha;rw[hl,Nat.add_sub_cancel]at hbl;obtain⟨b1,o1,hao,hcl⟩:=hr (by omega);have hck:=hcl m (by omega);clear hcl;have ht:=(iD a).get m;obtain⟨t,htt⟩:∃t:Nat,t=(D a).getD m 0:=⟨_,rfl⟩;rw[<-htt]at hck ht hbl;rw[<-hb]at hbl;have hne:(((m:Int)+1)==0)=false:=by simp;omega
   have e1:((m+1:Nat):Int)=(m:Int)+1:=by omega
   have hltm:(m:Int)<(m:Int)+1:=by omega
   have HBL:=hid hbl;have HT:=hid htt;clear hbl htt hb;go_enter Tryz.func56,Tryz.ntmps56;go_wp2_with fail
   go_loop [3,4] (fun cn x=>∃k y:Nat,cn=.int .i64 (32*(m:Int)+(k:Int))/\x=.int .u64 (y:Int)/\y<4294967296/\aB t=k+aB y/\k<=32) (fun _ x=>(intOf x).toNat)
   case atStart=>exact⟨0,t,by simp,rfl,ht,by omega,by omega⟩
   case round=>
    obtain⟨k,y,rfl,rfl,hy,hk,hk2⟩:=hrel;have HK:=hid hk;clear hk
    by_cases hy0:0<y
    . have hy0':(0:Int)<(y:Int):=by omega
      have hk3:k<32:=by
       have h1:=bX t 32 ht;have h2:=HK.out;have h3:=dJ y hy0;omega
      go_wp2_with fail
      go_round
      case rel=>
       refine⟨k+1,y/2,by go_num,by go_num,by omega,?_,by omega⟩;have h1:=HK.out;rw[uR y hy0]at h1;omega
      case measure=>simp[intOf];omega
    . have:y=0:=by omega
      subst this;have hy0':¬(0:Int)<((0:Nat):Int):=by omega
      go_wp2_with fail;go_ret;refine⟨cG ?_,rfl⟩;have h1:=HK.out;rw[fJ]at h1;have h2:=HBL.out;rw[<-HT.out]at*;omega

theorem iN (x y p:Nat)(hp:p=(x+18446744073709551616-y)%18446744073709551616)(hy:y<=18446744073709551616):IntKind.u64.wrap ((x:Int)-(y:Int))=(p:Int):=by
 rw[IntKind.wrap_u64];omega

theorem M.no_borrow {S c P t a:Nat}(h:S+t=a+c*P)(hS:S<P)(ht:t<=a):c=0/\S=a-t:=by
 rcases Nat.eq_zero_or_pos c with rfl|hc
 . simp at h;exact⟨rfl,by omega⟩
 . have:=Nat.le_mul_of_pos_left P hc;omega

theorem M.sub_place {S c P B A A' x y o c':Nat}(h:S+A'=A+c*P)(hs:o+y+c=x+B*c'):S+P*o+(A'+P*y)=A+P*x+c'*(P*B):=by
 have e:P*(o+y+c)=P*(x+B*c'):=by rw[hs]
 simp only[Nat.mul_add]at e;rw[Nat.mul_comm c' (P*B),Nat.mul_assoc];rw[Nat.mul_comm c P]at h;omega

def RetB (w w':World)(e:Ending)(r:List Nat)(b:Bool):Prop:=
 ∃ao cap,e=.returned (.tuple #[.slice ao r.length cap,.bool b])/\w'.ownsRow w.heap.size 25 1 (.slice ao r.length cap) r.length (U r)/\Below w.heap.size w w'

theorem RetB.nil {w w':World}(h:Below w.heap.size w w'):RetB w w' (.returned (.tuple #[.slice none 0 0,.bool false])) [] false:=⟨none,0,rfl,World.ownsRow_nil _ _ _ _,h⟩

theorem Rd.drewN {w:World}{ao:Option Addr}{xs:List Nat}(h:Rd w ao xs)(q:Nat):Rd (w.drewN q) ao xs:=h

theorem gU (ao bo:Option Addr)(n m c d:Nat)(a b:Nat)(w:World)(hl:(D a).length=n)(hm:(D b).length=m)(hba:b<=a)(hn:n<=2097152)(hr:Rd w ao (D a))(hr2:Rd w bo (D b)):
 Calls Tryz.prog 101 #[.slice ao n c,.slice bo m d] w fun e w'=>Ret w w' e (D (a-b)):=by
 obtain⟨i0,hi,hz0,hz1,hz2⟩:=info_parts Tryz.infoU;have fa:=iD a;have fb:=iD b
 have hmn:m<=n:=by
  rcases Nat.lt_or_ge n m with h|h
  . have:a<b:=M.dF (B:=4294967296) (by omega) (by unfold D at hl hm;omega);omega
  . exact h
 go_enter Tryz.func101,Tryz.ntmps101;go_wp2_with fail
 go_loopw [5,6,7] (fun v cy i wr=>∃(k:Nat)(os:List Nat)(cc:Nat),k<=n/\i=.int .i64 k/\cy=.int .u64 cc/\cc<=1/\wr.ownsRow w.heap.size 25 1 v k (U os)/\F32 os/\os.length=k/\X os+X ((D b).take k)=X ((D a).take k)+cc*4294967296^k/\Below w.heap.size w wr) (fun _ _ i _=>n-(intOf i).toNat)
 case atStart=>exact⟨0,[],0,by omega,rfl,rfl,by omega,World.ownsRow_nil _ _ _ _,fun x hx=>by simp at hx,rfl,by simp[X,M.val],Below.refl _ _⟩
 case round=>
  obtain⟨k,os,cc,hk,rfl,rfl,hcc,hown,hf,hlen,hv,hbl⟩:=hrel;have HV:=hid hv;clear hv;have HLen:=hid hlen;clear hlen
  by_cases hlt:k<n
  . obtain⟨b1,o1,hao,hcA⟩:=(hr.below hbl) (by omega);have hck:=hcA k (by omega);clear hcA;obtain⟨x,hxx⟩:∃x:Nat,x=(D a).getD k 0:=⟨_,rfl⟩;obtain⟨y,hyy⟩:∃y:Nat,y=(D b).getD k 0:=⟨_,rfl⟩;have hx1:=fa.get k;have hy1:=fb.get k;rw[<-hxx]at hx1 hck;rw[<-hyy]at hy1;have HX:=hid hxx;clear hxx;have HY:=hid hyy;clear hyy;have hlt':(k:Int)<(n:Int):=by omega
    obtain⟨s,hs0⟩:∃s:Nat,s=4294967296+x-y-cc:=⟨_,rfl⟩;have w2:(4294967296:Int)+(x:Int)-(y:Int)-(cc:Int)=(s:Int):=by omega
    have hlow:bits BinOp.and IntKind.u64 (s:Int) 4294967295=((s%4294967296:Nat):Int):=by
     rw[and_low32 _ (by omega) (by omega)];omega
    have hsb:s<8589934592:=by omega
    obtain⟨o,eo⟩:∃o:Nat,o=s%4294967296:=⟨_,rfl⟩;rw[<-eo]at hlow;obtain⟨c',ec'⟩:∃c':Nat,c'=1-s/4294967296:=⟨_,rfl⟩;have hsum:o+y+cc=x+4294967296*c'/\c'<=1/\o<4294967296/\(1:Int)-(s:Int)/4294967296=(c':Int):=by omega
    have E0:=hid hs0;have E1:=hid hsum;have E2:=hid eo;have E3:=hid ec';clear hs0 hsum eo ec';go_wp2_with fail
    go_quiet((go_at_call 60;exact Calls.quiet_of_same (cO bo _ d k (D b) _ hm (by omega) (by omega) (Rd.drewN (hr2.below hbl) _) y HY.out)))
    have hown2:(wr.drewN nq).ownsRow w.heap.size 25 1 _ k (U os):=hown;have hbl2:=below_drewN hbl nq;generalize wr.drewN nq=wq at hown2 hbl2|-;clear hown hck
    go_wp2_with (at_builtin;refine wpList_append_own _ rfl _ _ 56 rfl w.heap.size 25 i0 (.int .u64 0) 1 8 Tryz.underlying56 hi hz0 hz1 hz2 rfl (by decide) _ _ _ rfl (hown2.alloc _) ⟨wq.heap.size,0,none⟩ 1 1 (U [o]) rfl rfl ?c1 ?c2 ?c3 ?c4 ?c5 ?_)
    case c1=>
     intro j u hj
     match j,hj with
     |0,hj=>simp[U]at hj;subst hj;simp[Addr.add]
    case c2=>exact i7 _
    case c3=>unfold maxLen;omega
    case c4=>omega
    case c5=>have:=hbl2.size;simp;omega
    intro v' w1 hown' hgrow hnn;clear hnn
    have hb1:Below w.heap.size w w1:=(hbl2.alloc hbl2.size _).grown hgrow (by have:=hbl2.size;simp;omega) (fun k' hk'=>(hown2.lt k' hk').1)
    clear hown2 hgrow;go_wp2_with fail;go_roundw
    case rel=>
     have R:∃(k1:Nat)(os1:List Nat)(cc1:Nat),k1<=n/\Value.int .i64 ((k:Int)+1)=.int .i64 k1/\Value.int .u64 ((1:Int)-(s:Int)/4294967296)=.int .u64 cc1/\cc1<=1/\w1.ownsRow w.heap.size 25 1 v' k1 (U os1)/\F32 os1/\os1.length=k1/\X os1+X ((D b).take k1)=X ((D a).take k1)+cc1*4294967296^k1/\Below w.heap.size w w1:=by
      refine⟨k+1,os++[o],c',by omega,by go_num,by rw[E1.out.2.2.2],E1.out.2.1,?_,?_,by simp[HLen.out],?_,hb1⟩
      . rw[dH];exact hown'
      . intro z hz;rcases List.mem_append.1 hz with hz|hz
        . exact hf z hz
        . simp at hz;have:=E1.out.2.2.1;omega
      . unfold X at*;rw[M.iA,HLen.out,M.aJ,M.aJ,<-HX.out,<-HY.out,Nat.pow_succ];exact M.sub_place HV.out E1.out.1
     first|exact R|((repeat apply Exists.intro);exact⟨R,rfl⟩)|((repeat apply Exists.intro);exact⟨R,by rw[hao]⟩)
    case measure=>simp[intOf];omega
  . have e:k=n:=by omega
    subst e
    have hfin:X os=a-b:=by
     have h1:=HV.out;rw[lZ a k (by omega),lZ b k (by omega)]at h1;have h2:=M.gJ (B:=4294967296) (by omega) os hf;rw[HLen.out]at h2;exact(M.no_borrow h1 h2 hba).2
    have hv:=fF hown;obtain⟨ao1,cap1,hv⟩:=hv;rw[hv];rw[hv]at hown;clear hv;have HF:=hid hfin;clear hfin;go_wp2_with fail;have hrd:=Rd.own hown;refine(bZ 4294967296 (by omega) ao1 _ cap1 os _ HLen.out (bF hown) (by omega) hf hrd).mono ?_;have hfin:M.val 4294967296 os=a-b:=HF.out;rw[hfin];rintro e w1 ⟨ao',cap',rfl,ho,hb⟩;go_wp2_with fail;go_ret;exact⟨ao',cap',rfl,aM ho hbl.size,hbl.trans (hb.mono hbl.size)⟩

theorem yX {a b:Nat}(h:a<b):aY (a:Int) (b:Int)<0:=by rw[fH h];omega

theorem lK {a b:Nat}(h:b<=a):¬aY (a:Int) (b:Int)<0:=by
 rcases Nat.lt_or_ge b a with h1|h1
 . rw[fD h1];omega
 . rw[qL (by omega)];omega

theorem cJ (ao bo:Option Addr)(n m c d:Nat)(a b:Nat)(w:World)(hl:(D a).length=n)(hm:(D b).length=m)(hn:n<=2097152)(hn2:m<=2097152)(hr:Rd w ao (D a))(hr2:Rd w bo (D b)):
 Calls Tryz.prog 53 #[.slice ao n c,.slice bo m d] w fun e w'=>∃ao' cap',e=.returned (.slice ao' (D (a+b)).length cap')/\w'.ownsRow w.heap.size 25 1 (.slice ao' (D (a+b)).length cap') (D (a+b)).length (U (D (a+b)))/\Below w.heap.size w w':=by
 obtain⟨i0,hi,hz0,hz1,hz2⟩:=info_parts Tryz.infoU;have fa:=iD a;have fb:=iD b;obtain⟨mx,hmx⟩:∃mx:Nat,n<=mx/\m<=mx/\mx<=2097152/\(mx=n\/mx=m):=⟨max n m,by omega⟩;have hh:(n<m/\mx=m)\/(¬n<m/\mx=n):=by omega
 rcases hh with⟨hnm,rfl⟩|⟨hnm,rfl⟩
 all_goals
  go_enter Tryz.func53,Tryz.ntmps53;go_wp2_with fail
  go_loopw [6,7,8] (fun v cy i wr=>∃(k:Nat)(os:List Nat)(cc:Nat),k<=mx+1/\i=.int .i64 k/\cy=.int .u64 cc/\cc<=1/\wr.ownsRow w.heap.size 25 1 v k (U os)/\F32 os/\os.length=k/\X os+cc*4294967296^k=X ((D a).take k)+X ((D b).take k)/\Below w.heap.size w wr) (fun _ _ i _=>mx+2-(intOf i).toNat)
  case atStart=>exact⟨0,[],0,by omega,rfl,rfl,by omega,World.ownsRow_nil _ _ _ _,fun x hx=>by simp at hx,rfl,by simp[X,M.val],Below.refl _ _⟩
  case round=>
   obtain⟨k,os,cc,hk,rfl,rfl,hcc,hown,hf,hlen,hv,hbl⟩:=hrel;have HV:=hid hv;clear hv;have HLen:=hid hlen;clear hlen
   by_cases hlt:k<=mx
   . obtain⟨x,hxx⟩:∃x:Nat,x=(D a).getD k 0:=⟨_,rfl⟩;obtain⟨y,hyy⟩:∃y:Nat,y=(D b).getD k 0:=⟨_,rfl⟩;have hx1:=fa.get k;have hy1:=fb.get k;rw[<-hxx]at hx1;rw[<-hyy]at hy1;have HX:=hid hxx;clear hxx;have HY:=hid hyy;clear hyy;have hlt':(k:Int)<=(mx:Int):=by omega
     go_wp2_with fail;refine(cO ao _ c k (D a) _ hl (by omega) (by omega) (hr.below hbl) x HX.out).mono ?_;rintro e w1 ⟨rfl,rfl⟩;go_wp2_with fail;refine(cO bo _ d k (D b) _ hm (by omega) (by omega) (hr2.below hbl) y HY.out).mono ?_;rintro e w2 ⟨rfl,rfl⟩
     have hlow:bits BinOp.and IntKind.u64 ((x:Int)+(y:Int)+(cc:Int)) 4294967295=(((x+y+cc)%4294967296:Nat):Int):=by
      rw[and_low32 _ (by omega) (by omega)];omega
     go_wp2_with (at_builtin;refine wpList_append_own _ rfl _ _ 56 rfl w.heap.size 25 i0 (.int .u64 0) 1 8 Tryz.underlying56 hi hz0 hz1 hz2 rfl (by decide) _ _ _ rfl (hown.alloc _) ⟨w2.heap.size,0,none⟩ 1 1 (U [(x+y+cc)%4294967296]) rfl rfl ?c1 ?c2 ?c3 ?c4 ?c5 ?_)
     case c1=>
      intro j u hj
      match j,hj with
      |0,hj=>simp[U]at hj;subst hj;simp[Addr.add]
     case c2=>exact i7 _
     case c3=>unfold maxLen;omega
     case c4=>omega
     case c5=>have:=hbl.size;simp;omega
     intro v' w1 hown' hgrow hnn;clear hnn
     have hb1:Below w.heap.size w w1:=(hbl.alloc hbl.size _).grown hgrow (by have:=hbl.size;simp;omega) (fun k' hk'=>(hown.lt k' hk').1)
     clear hown hgrow;go_wp2_with fail;go_roundw
     case rel=>
      have R:∃(k1:Nat)(os1:List Nat)(cc1:Nat),k1<=mx+1/\Value.int .i64 ((k:Int)+1)=.int .i64 k1/\Value.int .u64 (((x:Int)+(y:Int)+(cc:Int))/4294967296)=.int .u64 cc1/\cc1<=1/\w1.ownsRow w.heap.size 25 1 v' k1 (U os1)/\F32 os1/\os1.length=k1/\X os1+cc1*4294967296^k1=X ((D a).take k1)+X ((D b).take k1)/\Below w.heap.size w w1:=by
       refine⟨k+1,os++[(x+y+cc)%4294967296],(x+y+cc)/4294967296,by omega,by go_num,by go_num,by omega,?_,?_,by simp[HLen.out],?_,hb1⟩
       . rw[dH];exact hown'
       . intro z hz;rcases List.mem_append.1 hz with hz|hz
         . exact hf z hz
         . simp at hz;omega
       . unfold X at*;rw[M.iA,HLen.out,M.aJ,M.aJ,<-HX.out,<-HY.out,Nat.pow_succ];exact M.DY HV.out (by omega)
      first|exact R|((repeat apply Exists.intro);exact⟨R,rfl⟩)
     case measure=>simp[intOf];omega
   . have e:k=mx+1:=by omega
     have hfin:X os=a+b:=by
      have h1:=HV.out;rw[lZ a k (by omega),lZ b k (by omega)]at h1;have h2:=mZ a mx (by omega);have h3:=mZ b mx (by omega);refine(M.sW h1 ?_).2;rw[e,Nat.pow_succ];omega
     have hv:=fF hown;obtain⟨ao1,cap1,hv⟩:=hv;rw[hv];rw[hv]at hown;have hlt':¬(k:Int)<=(mx:Int):=by omega
     clear e hv;have HF:=hid hfin;clear hfin;go_wp2_with fail;have hrd:=Rd.own hown;refine(bZ 4294967296 (by omega) ao1 _ cap1 os _ HLen.out (bF hown) (by omega) hf hrd).mono ?_;have hfin:M.val 4294967296 os=a+b:=HF.out;rw[hfin];rintro e w1 ⟨ao',cap',rfl,ho,hb⟩;go_wp2_with fail;go_ret;exact⟨ao',cap',rfl,aM ho hbl.size,hbl.trans (hb.mono hbl.size)⟩

theorem AD (n m:Nat)(h:n<=m)(hm:m<=128):IntKind.u64.wrap (IntKind.i64.wrap ((m:Int)-(n:Int)))=((m-n:Nat):Int):=by
 have e:IntKind.i64.wrap ((m:Int)-(n:Int))=((m-n:Nat):Int):=by
  simp only[IntKind.wrap_i64];omega
 rw[e,iH,Nat.mod_eq_of_lt (by omega)]

theorem DH (n m:Nat)(h:m<n)(hm:n<=200):64<=(IntKind.u64.wrap (IntKind.i64.wrap ((m:Int)-(n:Int)))).toNat:=by
 have e:IntKind.i64.wrap ((m:Int)-(n:Int))=(m:Int)-(n:Int):=by
  simp only[IntKind.wrap_i64];omega
 rw[e,iN m n (m+18446744073709551616-n) (by omega) (by omega)];omega

theorem GT (l:Nat):IntKind.u64.wrap ((l:Int)*2^64)=0:=by
 have:(l:Int)*2^64=((l*18446744073709551616:Nat):Int):=by omega
 rw[this,iH];omega

theorem PZ (l n:Nat):IntKind.u64.wrap ((l:Int)*2^n)=((l*2^n%18446744073709551616:Nat):Int):=by
 rw[fK,<-Int.natCast_mul,iH]

theorem DZ (a:Nat)(ha:a<18446744073709551616):bits BinOp.or IntKind.u64 (a:Int) 0=(a:Int):=by
 have:=cT a 0 ha (by omega)
 simpa using this

theorem pZ (a:Nat)(ha:a<18446744073709551616):bits BinOp.or IntKind.u64 0 (a:Int)=(a:Int):=by
 have:=cT 0 a (by omega) ha
 simpa using this

theorem IN (a:Nat)(ha:a<18446744073709551616):bits BinOp.or IntKind.u64 (a:Int) (a:Int)=(a:Int):=by
 have:=cT a a ha ha
 simpa using this

theorem PR (h l n k:Nat)(hl:l<18446744073709551616)(hn:n<64)(e3:l/2^(64-n)<2^n)(e4:h*2^n%18446744073709551616=k*2^n):
 bits BinOp.or IntKind.u64 (bits BinOp.or IntKind.u64 (IntKind.u64.wrap ((h:Int)*2^n)) ((l:Int)/2^min (IntKind.u64.wrap (IntKind.i64.wrap (64-(n:Int)))).toNat 64))
  (IntKind.u64.wrap ((l:Int)*2^min (IntKind.u64.wrap (IntKind.i64.wrap ((n:Int)-64))).toNat 64))=((h*2^n%18446744073709551616+l/2^(64-n):Nat):Int):=by
 have t1:min (IntKind.u64.wrap (IntKind.i64.wrap (64-(n:Int)))).toNat 64=64-n:=by
  have:=AD n 64 (by omega) (by omega);rw[show((64:Nat):Int)=64 from rfl]at this;rw[this];omega
 have t2:min (IntKind.u64.wrap (IntKind.i64.wrap ((n:Int)-64))).toNat 64=64:=by
  have:=DH 64 n (by omega) (by omega);rw[show((64:Nat):Int)=64 from rfl]at this;omega
 have hb:h*2^n%18446744073709551616<18446744073709551616:=Nat.mod_lt _ (by omega);have hd:l/2^(64-n)<=l:=Nat.div_le_self _ _;rw[t1,t2,GT,PZ,fM,cT _ _ hb (by omega),e4,kG _ _ _ e3,<-e4,Nat.add_comm];have hp:2^(64-n)*2^n=18446744073709551616:=by rw[<-Nat.pow_add,show 64-n+n=64 by omega]
 apply DZ
 rw[e4]at hb|-
 have:k<2^(64-n):=by
  rw[<-hp]at hb;exact Nat.lt_of_mul_lt_mul_right hb
 have h2:(k+1)*2^n<=2^(64-n)*2^n:=Nat.mul_le_mul_right _ this;rw[Nat.add_mul,hp]at h2;omega

theorem QF (h l n:Nat)(hl:l<18446744073709551616)(hn:64<=n)(hm:n<128):
 bits BinOp.or IntKind.u64 (bits BinOp.or IntKind.u64 (IntKind.u64.wrap ((h:Int)*18446744073709551616)) ((l:Int)/2^min (IntKind.u64.wrap (IntKind.i64.wrap (64-(n:Int)))).toNat 64))
  (IntKind.u64.wrap ((l:Int)*2^min (IntKind.u64.wrap (IntKind.i64.wrap ((n:Int)-64))).toNat 64))=((l*2^(n-64)%18446744073709551616:Nat):Int):=by
 have t2:min (IntKind.u64.wrap (IntKind.i64.wrap ((n:Int)-64))).toNat 64=n-64:=by
  have:=AD 64 n (by omega) (by omega);rw[show((64:Nat):Int)=64 from rfl]at this;rw[this];omega
 have h0:=GT h;rw[show(2:Int)^64=18446744073709551616 from rfl]at h0;have hb:l*2^(n-64)%18446744073709551616<18446744073709551616:=Nat.mod_lt _ (by omega);rw[t2,h0,PZ]
 by_cases he:n=64
 . have t1:min (IntKind.u64.wrap (IntKind.i64.wrap (64-(n:Int)))).toNat 64=0:=by
    have:=AD n 64 (by omega) (by omega);rw[show((64:Nat):Int)=64 from rfl]at this;rw[this];omega
   rw[t1,fM];subst he;simp only[Nat.sub_self,Nat.pow_zero,Nat.div_one,Nat.mul_one,Nat.mod_eq_of_lt hl];rw[pZ l hl,IN l hl]
 . have t1:min (IntKind.u64.wrap (IntKind.i64.wrap (64-(n:Int)))).toNat 64=64:=by
    have:=DH n 64 (by omega) (by omega);rw[show((64:Nat):Int)=64 from rfl]at this;omega
   rw[t1,fM,show l/2^64=0 from Nat.div_eq_of_lt (by omega)];have z:bits BinOp.or IntKind.u64 0 ((0:Nat):Int)=((0:Nat):Int):=pZ 0 (by omega);rw[z];exact pZ _ hb

theorem GV {w:World}(o1 o2:Obj):Below w.heap.size w ((w.alloc o1).alloc o2).drew:=
 (((Below.refl _ _).alloc (Nat.le_refl _) _).alloc (by simp) _).drew

theorem AT (X n:Nat)(w:World)(hX:X<2^128)(hn:n<64):
 Calls Tryz.prog 75 #[.agg #[.int .u64 (M.hiN X:Int),.int .u64 (M.loN X:Int)],.int .i64 (n:Int)] w fun e w'=>e=.returned (.agg #[.int .u64 (M.hiN (X*2^n%2^128):Int),.int .u64 (M.loN (X*2^n%2^128):Int)])/\Below w.heap.size w w':=by
 obtain⟨e1,e2,e3,k,e4⟩:=M.FR X n hX hn;rw[e1,e2];have hh:=M.mN hX;have hl:=M.kZ X;generalize M.hiN X=h at*;generalize M.loN X=l at*;clear e1 e2;have E3:=hid e3;have E4:=hid e4;clear e3 e4;go_enter Tryz.func75,Tryz.ntmps75;go_wp2_with fail
 go_region_held3 (fun v=>v.cell? ⟨w.heap.size,0,none⟩=some (.int .u64 (h:Int))/\v.cell? ⟨w.heap.size,1,none⟩=some (.int .u64 (l:Int))) (go_keep) (fail)
 go_wp2_with fail;refine bodyPost_ret (v:=.agg #[.int .u64 (bits BinOp.or IntKind.u64 (bits BinOp.or IntKind.u64 (IntKind.u64.wrap ((h:Int)*2^n)) ((l:Int)/2^min (IntKind.u64.wrap (IntKind.i64.wrap (64-(n:Int)))).toNat 64)) (IntKind.u64.wrap ((l:Int)*2^min (IntKind.u64.wrap (IntKind.i64.wrap ((n:Int)-64))).toNat 64))),.int .u64 (IntKind.u64.wrap ((l:Int)*2^n))]) (by simp[results,Tryz.results75,go_sem]) rfl ⟨?_,GV _ _⟩;rw[PR h l n k hl hn E3.out E4.out,PZ]

theorem BP (X n:Nat)(w:World)(hX:X<2^128)(hn:64<=n)(hm:n<128):
 Calls Tryz.prog 75 #[.agg #[.int .u64 (M.hiN X:Int),.int .u64 (M.loN X:Int)],.int .i64 (n:Int)] w fun e w'=>e=.returned (.agg #[.int .u64 (M.hiN (X*2^n%2^128):Int),.int .u64 (M.loN (X*2^n%2^128):Int)])/\Below w.heap.size w w':=by
 obtain⟨e1,e2⟩:=M.FN X n hX hn hm;rw[e1,e2];have hh:=M.mN hX;have hl:=M.kZ X;generalize M.hiN X=h at*;generalize M.loN X=l at*;clear e1 e2;go_enter Tryz.func75,Tryz.ntmps75;go_wp2_with fail
 go_region_held3 (fun v=>v.cell? ⟨w.heap.size,0,none⟩=some (.int .u64 (h:Int))/\v.cell? ⟨w.heap.size,1,none⟩=some (.int .u64 (l:Int))) (go_keep) (fail)
 go_wp2_with fail;refine bodyPost_ret (v:=.agg #[.int .u64 (bits BinOp.or IntKind.u64 (bits BinOp.or IntKind.u64 (IntKind.u64.wrap ((h:Int)*18446744073709551616)) ((l:Int)/2^min (IntKind.u64.wrap (IntKind.i64.wrap (64-(n:Int)))).toNat 64)) (IntKind.u64.wrap ((l:Int)*2^min (IntKind.u64.wrap (IntKind.i64.wrap ((n:Int)-64))).toNat 64))),.int .u64 (IntKind.u64.wrap ((l:Int)*18446744073709551616))]) (by simp[results,Tryz.results75,go_sem]) rfl ⟨?_,GV _ _⟩;rw[QF h l n hl hn hm,show IntKind.u64.wrap ((l:Int)*18446744073709551616)=((0:Nat):Int)from GT l]

theorem QZ (X n:Nat)(w:World)(hX:X<2^128)(hn:n<128)(Y:Nat)(hY:Y=X*2^n%2^128):
 Calls Tryz.prog 75 #[.agg #[.int .u64 (M.hiN X:Int),.int .u64 (M.loN X:Int)],.int .i64 (n:Int)] w fun e w'=>e=.returned (.agg #[.int .u64 (M.hiN Y:Int),.int .u64 (M.loN Y:Int)])/\Below w.heap.size w w':=by
 subst hY
 by_cases h:n<64
 . exact AT X n w hX h
 . exact BP X n w hX (by omega) hn

theorem DG (X Y:Nat)(w:World)(hX:X<2^128)(hY:Y<2^128)(Z:Nat)(hZ:Z=(X+Y)%2^128):
 Calls Tryz.prog 77 #[.agg #[.int .u64 (M.hiN X:Int),.int .u64 (M.loN X:Int)],.agg #[.int .u64 (M.hiN Y:Int),.int .u64 (M.loN Y:Int)]] w fun e w'=>e=.returned (.agg #[.int .u64 (M.hiN Z:Int),.int .u64 (M.loN Z:Int)])/\Below w.heap.size w w':=by
 obtain⟨e1,e2⟩:=M.L4 X Y hX hY;rw[<-hZ]at e1 e2;have a1:=M.kZ X;have b1:=M.kZ Y;have a2:=M.mN hX;have b2:=M.mN hY;generalize M.hiN X=xh at*;generalize M.loN X=xl at*;generalize M.hiN Y=yh at*;generalize M.loN Y=yl at*;generalize M.hiN Z=zh at*;generalize M.loN Z=zl at*;rw[<-e1]at e2;have w1:=fO xl yl zl e1;have w2:=fO xh yh ((xh+yh)%18446744073709551616) rfl;obtain⟨s,hs⟩:∃s:Nat,s=(xh+yh)%18446744073709551616:=⟨_,rfl⟩;rw[<-hs]at w2;obtain⟨c,hc⟩:∃c:Nat,c=if(zl:Int)<(yl:Int)then 1 else 0:=⟨_,rfl⟩;have hc':c=if zl<yl then 1 else 0:=by rw[hc];congr 1;simp
 have w3:=fO s c zh (by rw[e2,<-hc',hs];omega);have HC:=hid hc;clear hc hc' hs e1 e2 hZ hX hY;go_enter Tryz.func77,Tryz.ntmps77;go_wp2_with fail
 go_region_held3 (fun v=>v.cell? ⟨w.heap.size,0,none⟩=some (.int .u64 (xh:Int))/\v.cell? ⟨w.heap.size,1,none⟩=some (.int .u64 (xl:Int))/\v.cell? ⟨w.heap.size+1,0,none⟩=some (.int .u64 (yh:Int))/\v.cell? ⟨w.heap.size+1,1,none⟩=some (.int .u64 (yl:Int))) (go_keep) (first|(go_at_call 106;refine(eL _ _ _ c HC.out).mono ?_;rintro e w' ⟨rfl,rfl⟩))
 go_wp2_with fail;exact bodyPost_ret (v:=.agg #[.int .u64 (zh:Int),.int .u64 (zl:Int)]) (by simp[results,Tryz.results77,go_sem]) rfl ⟨rfl,((((Below.refl _ _).alloc (Nat.le_refl _) _).alloc (by simp) _).alloc (by simp;omega) _).drew⟩

theorem PY (X Y:Nat)(w:World)(hX:X<2^128)(hY:Y<2^128)(Z:Nat)(hZ:Z=(X+(2^128-Y))%2^128):
 Calls Tryz.prog 105 #[.agg #[.int .u64 (M.hiN X:Int),.int .u64 (M.loN X:Int)],.agg #[.int .u64 (M.hiN Y:Int),.int .u64 (M.loN Y:Int)]] w fun e w'=>e=.returned (.agg #[.int .u64 (M.hiN Z:Int),.int .u64 (M.loN Z:Int)])/\Below w.heap.size w w':=by
 obtain⟨e1,e2⟩:=M.LN X Y hX hY;rw[<-hZ]at e1 e2;have a1:=M.kZ X;have b1:=M.kZ Y;have a2:=M.mN hX;have b2:=M.mN hY;generalize M.hiN X=xh at*;generalize M.loN X=xl at*;generalize M.hiN Y=yh at*;generalize M.loN Y=yl at*;generalize M.hiN Z=zh at*;generalize M.loN Z=zl at*;have w1:=iN xl yl zl e1 (by omega);obtain⟨s,hs⟩:∃s:Nat,s=(xh+18446744073709551616-yh)%18446744073709551616:=⟨_,rfl⟩;have w2:=iN xh yh s hs (by omega);obtain⟨c,hc⟩:∃c:Nat,c=if(xl:Int)<(yl:Int)then 1 else 0:=⟨_,rfl⟩;have hc':c=if xl<yl then 1 else 0:=by rw[hc];congr 1;simp
 have hc2:c<=1:=by rw[hc'];split<;>omega
 have w3:=iN s c zh (by rw[e2,<-hc',hs];omega) (by omega);have HC:=hid hc;clear hc hc' hs e1 e2 hZ hX hY;go_enter Tryz.func105,Tryz.ntmps105;go_wp2_with fail
 go_region_held3 (fun v=>v.cell? ⟨w.heap.size,0,none⟩=some (.int .u64 (xh:Int))/\v.cell? ⟨w.heap.size,1,none⟩=some (.int .u64 (xl:Int))/\v.cell? ⟨w.heap.size+1,0,none⟩=some (.int .u64 (yh:Int))/\v.cell? ⟨w.heap.size+1,1,none⟩=some (.int .u64 (yl:Int))) (go_keep) (first|(go_at_call 106;refine(eL _ _ _ c HC.out).mono ?_;rintro e w' ⟨rfl,rfl⟩))
 go_wp2_with fail;exact bodyPost_ret (v:=.agg #[.int .u64 (zh:Int),.int .u64 (zl:Int)]) (by simp[results,Tryz.results105,go_sem]) rfl ⟨rfl,((((Below.refl _ _).alloc (Nat.le_refl _) _).alloc (by simp) _).alloc (by simp;omega) _).drew⟩

theorem wH (n:Nat)(w:World)(hn:n<128)(Y:Nat)(hY:Y=2^n):
 Calls Tryz.prog 95 #[.int .i64 (n:Int)] w fun e w'=>e=.returned (.agg #[.int .u64 (M.hiN Y:Int),.int .u64 (M.loN Y:Int)])/\Below w.heap.size w w':=by
 have h1:Y=1*2^n%2^128:=by rw[hY,Nat.one_mul,Nat.mod_eq_of_lt (Nat.pow_lt_pow_right (by omega) hn)]
 have HY:=hid h1;clear h1 hY
 have k:=fun v:World=>QZ 1 n v (by omega) hn Y HY.out
 rw[M.I9 (show 1<18446744073709551616 by omega),M.II (show 1<18446744073709551616 by omega)]at k;go_enter Tryz.func95,Tryz.ntmps95;go_wp2_with fail;refine(k _).mono ?_;rintro e v1 ⟨rfl,b1⟩;clear k;obtain⟨hc,hf⟩:=DA b1;go_wp2_with fail;exact bodyPost_ret (v:=.agg #[.int .u64 (M.hiN Y:Int),.int .u64 (M.loN Y:Int)]) (by simp[results,Tryz.results95,go_sem,hc]) rfl ⟨rfl,(((((Below.refl _ _).alloc (Nat.le_refl _) _).trans (b1.mono (by simp))).setCell (Nat.le_refl _) _).setCell (Nat.le_refl _) _)⟩

end Go.Proofs.YtfdgkleoaehjaaaGreatDoor
namespace Go.Proofs.YtfdgkleoaehjaaaGreatDoor.M
set_option linter.unusedVariables false
set_option maxRecDepth 100000

def fV (a b:Nat):Int:=if a<b then-1 else if b<a then 1 else 0

theorem sJ {a b c d:Nat}(h1:a<b↔c<d)(h2:b<a↔d<c):fV a b=fV c d:=by
 unfold fV;simp[h1,h2]

def Fm.rank (F:Fm)(t:Pt):Nat:=
 if t.c=1 then 0 else if t.c=4 then F.top*F.lead else(t.q-F.qmin).toNat*F.lead+t.s

def Fm.frc (F:Fm)(X:Nat):Nat:=F.sig X-(if 0<F.fld X then F.lead else 0)

theorem Fm.Ok.notBad {F:Fm}(h:F.Ok)(X:Nat)(hb:¬F.bad X):F.sgn X<=1/\(F.lead<=F.sig X↔0<F.fld X):=by
 unfold Fm.bad at hb
 exact⟨by have:¬1<F.sgn X:=fun h1=>hb (.inl h1);omega,Classical.byContradiction fun h2=>hb (.inr h2)⟩

theorem Fm.Ok.low {F:Fm}(h:F.Ok)(X:Nat)(hb:¬F.bad X):
 F.frc X<F.lead/\F.sig X=F.frc X+(if 0<F.fld X then F.lead else 0)/\
 X%2^(F.wd-1)=F.fld X*2^F.fb+F.frc X+(if F.x=true/\0<F.fld X then F.lead else 0):=by
 have hs:=h.sigLt X;obtain⟨_,hi⟩:=h.notBad X hb;have hl:=h.leadPos
 have e:X%2^(F.wd-1)=F.fld X*2^F.fb+X%2^F.fb:=by
  rw[h.width.2.1,Nat.mod_mul];unfold Fm.fld;rw[Nat.mul_comm,Nat.add_comm]
 have e2:F.sig X=if F.x=false/\0<F.fld X then X%2^F.fb+F.lead else X%2^F.fb:=rfl;rw[e];unfold Fm.frc;generalize F.sig X=s at*;generalize F.fld X=f at*;generalize X%2^F.fb=r at*
 by_cases h1:0<f
 . have:=hi.2 h1;simp only[h1,if_true,and_true]at*;refine⟨by omega,by omega,?_⟩;cases hx:F.x
   . simp[hx]at*;omega
   . simp[hx]at*;omega
 . have h2:¬F.lead<=s:=mt hi.1 h1;simp only[h1,if_false,and_false]at*;omega

theorem lex {L K f g a b:Nat}(h1:a<L)(h2:b<L)(hK:L<=K)(hf hg:Nat)(e1:a+hf<K)(e2:b+hg<K)(e3:f=g->hf=hg):
 f*K+a+hf<g*K+b+hg↔f*L+a<g*L+b:=by
 rcases Nat.lt_trichotomy f g with h|h|h
 . have p1:(f+1)*K<=g*K:=Nat.mul_le_mul_right _ h;have p2:(f+1)*L<=g*L:=Nat.mul_le_mul_right _ h;rw[Nat.add_mul]at p1 p2;omega
 . subst h;have:=e3 rfl;omega
 . have p1:(g+1)*K<=f*K:=Nat.mul_le_mul_right _ h;have p2:(g+1)*L<=f*L:=Nat.mul_le_mul_right _ h;rw[Nat.add_mul]at p1 p2;omega

theorem Fm.Ok.low_lt {F:Fm}(h:F.Ok)(X Y:Nat)(hX:¬F.bad X)(hY:¬F.bad Y):
 X%2^(F.wd-1)<Y%2^(F.wd-1)↔F.fld X*F.lead+F.frc X<F.fld Y*F.lead+F.frc Y:=by
 obtain⟨a1,_,a3⟩:=h.low X hX;obtain⟨b1,_,b3⟩:=h.low Y hY;rw[a3,b3];have had:=h.ad;cases hx:F.x
 . simp[hx]at had|-
   rw[had]
 . simp[hx]at had|-
   rw[had];refine lex a1 b1 (by omega) _ _ ?_ ?_ ?_
   . split<;>omega
   . split<;>omega
   . intro e;rw[e]

theorem Fm.Ok.rank_upk {F:Fm}(h:F.Ok)(X:Nat)(hb:¬F.bad X)(hc:(F.upk X).c≠5):
 F.rank (F.upk X)=F.fld X*F.lead+F.frc X/\F.rank (F.upk X)<=F.top*F.lead/\((F.upk X).c=1↔F.rank (F.upk X)=0)/\((F.upk X).c=4↔F.rank (F.upk X)=F.top*F.lead)/\(F.upk X).n=decide (F.sgn X=1):=by
 have hl:=h.leadPos;have ht:=h.top2;have hf:=fldLe h X;obtain⟨a1,a2,_⟩:=h.low X hb;obtain⟨_,hi⟩:=h.notBad X hb;unfold Fm.upk at hc|-;simp only[hb,if_false]at hc|-;have htl:0<F.top*F.lead:=Nat.mul_pos (by omega) hl
 by_cases h1:F.fld X=F.top
 . simp only[h1,if_true]at hc|-;have hp:0<F.top:=by omega
   by_cases h2:F.sig X=F.lead
   . simp only[h2,if_true]at hc|-;rw[h1,if_pos hp]at a2;refine⟨?_,?_,?_,?_,by simp⟩
     . simp[Fm.rank];omega
     . simp[Fm.rank]
     . simp[Fm.rank];omega
     . simp[Fm.rank]
   . simp only[h2,if_false]at hc;exact absurd rfl hc
 . simp only[h1,if_false]at hc|-;have hlt:(F.fld X+1)*F.lead<=F.top*F.lead:=Nat.mul_le_mul_right _ (by omega);rw[Nat.add_mul]at hlt
   by_cases h2:0<F.fld X
   . simp only[h2,if_true]at hc|-a2
     have e:F.rank ⟨3,decide (F.sgn X=1),F.sig X,(F.fld X:Int)-F.emax-F.p+1⟩=F.fld X*F.lead+F.frc X:=by
      have e1:((F.fld X:Int)-F.emax-F.p+1-F.qmin).toNat=F.fld X-1:=by unfold Fm.qmin;omega
      simp only[Fm.rank,e1]
      simp
      have:F.fld X*F.lead=(F.fld X-1)*F.lead+F.lead:=by
       rw[Nat.sub_mul];have:1*F.lead<=F.fld X*F.lead:=Nat.mul_le_mul_right _ h2;omega
      omega
     have hpos:1*F.lead<=F.fld X*F.lead:=Nat.mul_le_mul_right _ h2;rw[e]
     refine⟨rfl,by omega,?_,?_,by simp⟩<;>simp<;>omega
   . have h0:F.fld X=0:=by omega
     simp only[h2,if_false]at hc|-a2
     by_cases h3:F.sig X=0
     . simp only[h3,if_true]at hc|-;refine⟨?_,?_,?_,?_,by simp⟩
       . simp[Fm.rank,h0];omega
       . simp[Fm.rank]
       . simp[Fm.rank]
       . simp[Fm.rank];omega
     . simp only[h3,if_false]at hc|-;have e:F.rank ⟨2,decide (F.sgn X=1),F.sig X,F.qmin⟩=F.sig X:=by simp[Fm.rank]
       rw[e]
       refine⟨by rw[h0];omega,by omega,?_,?_,by simp⟩<;>simp<;>omega

def Fm.orderP (F:Fm)(s t:Pt):Int:=
 if s.c=0\/s.c=5\/t.c=0\/t.c=5 then 2
 else if s.n=true/\s.c≠1 then(if t.n=true/\t.c≠1 then fV (F.rank t) (F.rank s)else-1)
 else if t.n=true/\t.c≠1 then 1 else fV (F.rank s) (F.rank t)

def Fm.orderS (F:Fm)(X Y:Nat):Int:=
 if(F.upk X).c=0\/(F.upk X).c=5\/(F.upk Y).c=0\/(F.upk Y).c=5 then 2
 else if X%2^(F.wd-1)=0/\Y%2^(F.wd-1)=0 then 0
 else if(F.upk X).n=true/\(F.upk Y).n=false then-1
 else if(F.upk X).n=false/\(F.upk Y).n=true then 1
 else if(F.upk X).n=true then fV (Y%2^(F.wd-1)) (X%2^(F.wd-1))else fV (X%2^(F.wd-1)) (Y%2^(F.wd-1))

theorem Fm.upk_bad (F:Fm)(X:Nat)(h:(F.upk X).c≠0):¬F.bad X:=by
 intro hb;apply h;unfold Fm.upk;simp[hb]

theorem Fm.Ok.order {F:Fm}(h:F.Ok)(X Y:Nat):F.orderP (F.upk X) (F.upk Y)=F.orderS X Y:=by
 unfold Fm.orderP Fm.orderS
 by_cases hv:(F.upk X).c=0\/(F.upk X).c=5\/(F.upk Y).c=0\/(F.upk Y).c=5
 . simp only[hv,if_true]
 . simp only[hv,if_false]
   have hx0:(F.upk X).c≠0:=fun e=>hv (.inl e)
   have hx5:(F.upk X).c≠5:=fun e=>hv (.inr (.inl e))
   have hy0:(F.upk Y).c≠0:=fun e=>hv (.inr (.inr (.inl e)))
   have hy5:(F.upk Y).c≠5:=fun e=>hv (.inr (.inr (.inr e)))
   have bx:=F.upk_bad X hx0;have bY:=F.upk_bad Y hy0;obtain⟨rx,_,zx,_,_⟩:=h.rank_upk X bx hx5;obtain⟨ry,_,zy,_,_⟩:=h.rank_upk Y bY hy5;have h1:=h.low_lt X Y bx bY;have h2:=h.low_lt Y X bY bx;rw[<-rx,<-ry]at h1 h2;have z0:(0:Nat)%2^(F.wd-1)=0:=Nat.zero_mod _
   have b0:¬F.bad 0:=by
    unfold Fm.bad;have hl:=h.leadPos;have f0:F.fld 0=0:=by simp[Fm.fld]
    have s0:F.sig 0=0:=by simp[Fm.sig,f0]
    have g0:F.sgn 0=0:=by simp[Fm.sgn]
    rw[f0,s0,g0];omega
   have hz:∀Z,¬F.bad Z->(F.upk Z).c≠5->(Z%2^(F.wd-1)=0↔F.rank (F.upk Z)=0):=by
    intro Z bz hz5;obtain⟨rz,_,_,_,_⟩:=h.rank_upk Z bz hz5;have h3:=h.low_lt 0 Z b0 bz;have f0:F.fld 0=0:=by simp[Fm.fld]
    have s0:F.frc 0=0:=by simp[Fm.frc,f0,Fm.sig]
    rw[z0,f0,s0,<-rz]at h3;omega
   have hzx:=hz X bx hx5;have hzy:=hz Y bY hy5;have c1:fV (X%2^(F.wd-1)) (Y%2^(F.wd-1))=fV (F.rank (F.upk X)) (F.rank (F.upk Y)):=sJ h1 h2;have c2:fV (Y%2^(F.wd-1)) (X%2^(F.wd-1))=fV (F.rank (F.upk Y)) (F.rank (F.upk X)):=sJ h2 h1;simp only[c1,c2,hzx,hzy];generalize F.rank (F.upk X)=a at*;generalize F.rank (F.upk Y)=b at*;generalize(F.upk X).c=cx at*;generalize(F.upk Y).c=cy at*;clear h1 h2 c1 c2 hzx hzy rx ry
   cases(F.upk X).n<;>cases(F.upk Y).n<;>simp only[Bool.false_eq_true,true_and,false_and,and_false,and_true,if_false,if_true,ne_eq,reduceCtorEq]
   . by_cases ha:a=0/\b=0
     . simp[ha,fV]
     . simp[ha]
   . by_cases hb:b=0
     . have:cy=1:=zy.2 hb;simp only[this,not_true,if_false]
       by_cases ha:a=0
       . simp[ha,hb,fV]
       . simp[ha,hb,fV]
     . have:¬cy=1:=mt zy.1 hb
       simp[this,hb]
   . by_cases ha:a=0
     . have:cx=1:=zx.2 ha;simp only[this,not_true,if_false]
       by_cases hb:b=0
       . simp[ha,hb,fV]
       . simp[ha,hb,fV]
     . have:¬cx=1:=mt zx.1 ha
       simp[this,ha]
   . by_cases ha:a=0
     . have:cx=1:=zx.2 ha;simp only[this,not_true,if_false]
       by_cases hb:b=0
       . have:cy=1:=zy.2 hb
         simp[this,ha,hb,fV]
       . have:¬cy=1:=mt zy.1 hb
         simp[this,ha,hb,fV]
     . have:¬cx=1:=mt zx.1 ha
       by_cases hb:b=0
       . have h9:cy=1:=zy.2 hb
         simp[this,h9,ha,hb,fV]
       . have h9:¬cy=1:=mt zy.1 hb
         simp[this,h9,ha,hb]

end Go.Proofs.YtfdgkleoaehjaaaGreatDoor.M
namespace Go.Proofs.YtfdgkleoaehjaaaGreatDoor
open Go.RowKit
set_option linter.unusedVariables false
set_option maxRecDepth 100000

theorem Q3 (F:M.Fm)(h:F.Ok)(w:World):Calls Tryz.prog 104 #[dv F] w fun e w'=>e=.returned (.int .i64 (F.fb:Int))/\Below w.heap.size w w':=by
 have h1:=h.w;have h2:(F.wd:Int)-(F.e:Int)-1=(F.fb:Int):=by unfold M.Fm.wd;omega
 unfold dv;have h3:=h.e2;generalize F.wd=wd at*;generalize F.fb=fb at*;go_enter Tryz.func104,Tryz.ntmps104;go_wp2_with fail;go_ret;exact⟨rfl,(Below.refl _ _).alloc (Nat.le_refl _) _⟩

theorem SD (F:M.Fm)(h:F.Ok)(w:World):Calls Tryz.prog 74 #[dv F] w fun e w'=>e=.returned (.int .i64 (F.top:Int))/\Below w.heap.size w w':=by
 have h2:=h.top2;have h3:=h.e2;have e1:(2:Int)^F.e=((F.top+1:Nat):Int):=by rw[<-h2.2.1];simp
 have e2:IntKind.i64.wrap ((2:Int)^F.e)=(F.top:Int)+1:=by rw[e1];simp only[IntKind.wrap_i64];omega
 have hb:F.top<=40000:=by omega
 have HE:=hid e1;unfold dv;clear h2 e1;generalize F.top=tp at*;go_enter Tryz.func74,Tryz.ntmps74;go_wp2_with fail;go_ret;exact⟨rfl,(Below.refl _ _).alloc (Nat.le_refl _) _⟩

theorem QS (F:M.Fm)(h:F.Ok)(w:World):Calls Tryz.prog 76 #[dv F] w fun e w'=>e=.returned (.int .i64 F.qmin)/\Below w.heap.size w w':=by
 have h2:=h.top2;have h3:=h.p2;have e1:1-(F.emax:Int)-(F.p:Int)+1=F.qmin:=by unfold M.Fm.qmin;omega
 have hb:F.emax<=16383:=by omega
 unfold dv;clear h2;generalize F.emax=m at*;generalize F.qmin=q at*;go_enter Tryz.func76,Tryz.ntmps76;go_wp2_with fail;go_ret;exact⟨rfl,(Below.refl _ _).alloc (Nat.le_refl _) _⟩

theorem LC (F:M.Fm)(h:F.Ok)(w:World):Calls Tryz.prog 94 #[dv F] w fun e w'=>e=.returned (.agg #[.int .u64 (M.hiN F.lead:Int),.int .u64 (M.loN F.lead:Int)])/\Below w.heap.size w w':=by
 have h2:=h.p1;have h3:=h.p2;obtain⟨q,hq⟩:∃q:Nat,F.p=q+1:=⟨F.p-1,by omega⟩
 have k:=fun v:World=>wH q v (by omega) F.lead (by unfold M.Fm.lead;rw[hq];rfl)
 have e1:(F.p:Int)-1=(q:Int):=by omega
 have hb:F.p<=113:=h3;unfold dv;clear hq h2 h3;generalize F.lead=Y at*;go_enter Tryz.func94,Tryz.ntmps94;go_wp2_with fail;refine(k _).mono ?_;rintro e v1 ⟨rfl,b1⟩;clear k;obtain⟨hc,hf⟩:=DA b1;go_wp2_with fail;exact bodyPost_ret (v:=.agg #[.int .u64 (M.hiN Y:Int),.int .u64 (M.loN Y:Int)]) (by simp[results,Tryz.results94,go_sem,hc]) rfl ⟨rfl,((((((Below.refl _ _).alloc (Nat.le_refl _) _).alloc (by simp) _).trans (b1.mono (by simp;omega))).setCell (by simp) _).setCell (by simp) _)⟩

theorem IH (F:M.Fm)(h:F.Ok)(w:World):Calls Tryz.prog 46 #[dv F] w fun e w'=>e=.returned (.bool true)/\Below w.heap.size w w':=by
 have h2:=h.p1;have e1:((F.p:Int)==0)=false:=by simp;omega
 have e2:¬F.p=0:=by omega
 unfold dv;go_enter Tryz.func46,Tryz.ntmps46;go_wp2_with fail;go_ret;exact⟨rfl,(Below.refl _ _).alloc (Nat.le_refl _) _⟩

theorem MG (w:World):Calls Tryz.prog 46 #[.agg #[.int .i64 0,.int .i64 0,.int .i64 0,.int .i64 0,.int .i64 0,.bool false]] w fun e w'=>e=.returned (.bool false)/\Below w.heap.size w w':=by
 go_enter Tryz.func46,Tryz.ntmps46;go_wp2_with fail;go_ret;exact⟨rfl,(Below.refl _ _).alloc (Nat.le_refl _) _⟩

theorem or2 (g:Nat)(a b:Int)(w:World)(h0:w.cell? ⟨g,0,none⟩=some (.int .i64 a))(h1:w.cell? ⟨g,1,none⟩=some (.int .i64 b)):
 Calls Tryz.prog 78 #[.slice (some ⟨g,0,none⟩) 2 2] w fun e w'=>e=.returned (.int .i64 (if a=0 then b else a))/\w'=w:=by
 go_enter Tryz.func78,Tryz.ntmps78;go_wp2_with fail
 go_loop [8] (fun i=>i=.int .i64 0\/(i=.int .i64 1/\a=0)\/(i=.int .i64 2/\a=0/\b=0)) (fun i=>2-(intOf i).toNat)
 case atStart=>exact .inl rfl
 case round=>
  rcases hrel with rfl|⟨rfl,ha⟩|⟨rfl,ha,hb⟩
  . by_cases ha:a=0
    . subst ha;go_wp2_with fail
      go_round
      case rel=>exact .inr (.inl ⟨rfl,by simp⟩)
      case measure=>simp[intOf]
    . have hne:(a !=0)=true:=by simp[ha]
      go_wp2_with fail;go_ret;exact⟨by simp,rfl⟩
  . subst ha
    by_cases hb:b=0
    . subst hb;go_wp2_with fail
      go_round
      case rel=>exact .inr (.inr ⟨rfl,by simp,by simp⟩)
      case measure=>simp[intOf]
    . have hne:(b !=0)=true:=by simp[hb]
      go_wp2_with fail;go_ret;exact⟨by simp,rfl⟩
  . subst ha;subst hb;go_wp2_with fail;go_ret;exact⟨by simp,rfl⟩

theorem PJ (X Y:Nat):(if aY (M.hiN X:Int) (M.hiN Y:Int)=0 then aY (M.loN X:Int) (M.loN Y:Int)else aY (M.hiN X:Int) (M.hiN Y:Int))=M.fV X Y:=by
 have a:=M.hl X;have b:=M.hl Y;have a1:=M.kZ X;have b1:=M.kZ Y;generalize M.hiN X=xh at*;generalize M.loN X=xl at*;generalize M.hiN Y=yh at*;generalize M.loN Y=yl at*;unfold aY M.fV;rcases Nat.lt_trichotomy xh yh with h|h|h
 . have c1:(xh:Int)<(yh:Int):=by omega
   have c2:X<Y:=by omega
   simp[c1,c2]
 . subst h
   simp
   rcases Nat.lt_trichotomy xl yl with h|h|h
   . have c2:X<Y:=by omega
     simp[h,c2]
   . subst h;have:X=Y:=by omega
     simp[this]
   . have c2:Y<X:=by omega
     have c3:¬X<Y:=by omega
     have c4:¬xl<yl:=by omega
     simp[h,c2,c3,c4]
 . have c1:(yh:Int)<(xh:Int):=by omega
   have c2:Y<X:=by omega
   have c3:¬X<Y:=by omega
   have c4:¬(xh:Int)<(yh:Int):=by omega
   simp[c1,c2,c3,c4]

theorem SA (g:Nat)(a b:Int)(w:World)(r:Int)(hr:Hid (r=if a=0 then b else a))(h0:w.cell? ⟨g,0,none⟩=some (.int .i64 a))(h1:w.cell? ⟨g,1,none⟩=some (.int .i64 b)):
 Calls Tryz.prog 78 #[.slice (some ⟨g,0,none⟩) 2 2] w fun e w'=>e=.returned (.int .i64 r)/\w'=w:=by
 rw[hr.out];exact or2 g a b w h0 h1

theorem RT (X Y:Nat)(w:World)(r:Int)(hr:r=M.fV X Y):
 Calls Tryz.prog 32 #[.agg #[.int .u64 (M.hiN X:Int),.int .u64 (M.loN X:Int)],.agg #[.int .u64 (M.hiN Y:Int),.int .u64 (M.loN Y:Int)]] w fun e w'=>e=.returned (.int .i64 r)/\Below w.heap.size w w':=by
 rw[<-PJ]at hr;have HR:=hid hr;clear hr;generalize M.hiN X=xh at*;generalize M.loN X=xl at*;generalize M.hiN Y=yh at*;generalize M.loN Y=yl at*;go_enter Tryz.func32,Tryz.ntmps32;go_wp2_with fail
 go_region_held3 (fun v=>v.cell? ⟨w.heap.size,0,none⟩=some (.int .u64 (xh:Int))/\v.cell? ⟨w.heap.size,1,none⟩=some (.int .u64 (xl:Int))/\v.cell? ⟨w.heap.size+1,0,none⟩=some (.int .u64 (yh:Int))/\v.cell? ⟨w.heap.size+1,1,none⟩=some (.int .u64 (yl:Int))) (go_keep)
  (first|(go_at_call 79;refine(xG _ _ _).mono ?_;rintro e w' ⟨rfl,rfl⟩)|(go_at_call 78;refine(SA _ (aY (xh:Int) (yh:Int)) (aY (xl:Int) (yl:Int)) _ r HR (by simp[go_sem]) (by simp[go_sem])).mono ?_;rintro e w' ⟨rfl,rfl⟩))
 all_goals go_wp2_with fail
 all_goals go_ret
 all_goals exact⟨rfl,((((Below.refl _ _).alloc (Nat.le_refl _) _).alloc (by simp) _).alloc (by simp;omega) _).drew⟩

end Go.Proofs.YtfdgkleoaehjaaaGreatDoor
