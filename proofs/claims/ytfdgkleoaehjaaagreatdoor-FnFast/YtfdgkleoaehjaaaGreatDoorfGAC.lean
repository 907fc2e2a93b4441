import Derived.Deep.RegionHeld3
import Derived.Lib.BitFns
import Derived.Test.YtfdgkleoaehjaaaGreatDoorfGAB
set_option maxHeartbeats 1000000
namespace Go.Proofs.YtfdgkleoaehjaaaGreatDoor.M
set_option linter.unusedVariables false
set_option maxRecDepth 100000

theorem fG (p n:Nat)(hp:p<=n):2^(n-p)*2^p=2^n:=by rw[<-Nat.pow_add];congr 1;omega

theorem uO {K P x cc:Nat}(hP:0<P)(hK:0<K)(hx:x<K*P)(hc:cc<P):
 (cc+x%K*P)+K*P*(x/K)=x*P+cc/\cc+x%K*P<K*P/\x/K<P:=by
 have h1:=Nat.mod_add_div x K;have h2:=Nat.mod_lt x hK;refine⟨?_,?_,?_⟩
 . have e:x*P=(x%K+K*(x/K))*P:=by rw[h1]
   rw[e,Nat.add_mul,Nat.mul_right_comm K P (x/K)];omega
 . have:(x%K+1)*P<=K*P:=Nat.mul_le_mul_right _ h2;rw[Nat.add_mul]at this;omega
 . exact Nat.div_lt_of_lt_mul hx

theorem zJ {V V' c c' Q Pk B P x o T:Nat}(h:V+c*(Q*Pk)=(Q*P)*T)(hv:V'=V+Q*Pk*o)(hs:o+B*c'=x*P+c):V'+c'*(Q*Pk*B)=(Q*P)*(T+Pk*x):=by
 have e:Q*Pk*(o+B*c')=Q*Pk*(x*P+c):=by rw[hs]
 simp only[Nat.mul_add]at e;have e2:(Q*P)*(Pk*x)=Q*Pk*(x*P):=by simp only[Nat.mul_comm,Nat.mul_left_comm]
 rw[Nat.mul_add,e2,Nat.mul_comm c' (Q*Pk*B),Nat.mul_assoc];rw[Nat.mul_comm c (Q*Pk)]at h;omega

theorem FD {K P x T:Nat}(hP:0<P)(hK:0<K):(x/P+T%P*K)+K*P*(T/P)=(x+K*P*T)/P/\(x+K*P*T)%P=x%P:=by
 have h1:=Nat.mod_add_div T P
 constructor
 . have e:x+K*P*T=x+P*(K*T):=by rw[Nat.mul_comm K P,Nat.mul_assoc]
   rw[e,Nat.add_mul_div_left _ _ hP];have e2:K*T=K*(T%P+P*(T/P)):=by rw[h1]
   rw[e2,Nat.mul_add,Nat.mul_comm (T%P) K,Nat.mul_assoc];omega
 . rw[Nat.mul_comm K P,Nat.mul_assoc,Nat.add_mul_mod_self_left]

theorem PI {K P x T:Nat}(hP:0<P)(hx:x<K*P):x/P+T%P*K<P*K:=by
 have h1:x/P<K:=Nat.div_lt_of_lt_mul (by rw[Nat.mul_comm];exact hx);have h2:=Nat.mod_lt T hP;have h3:(T%P+1)*K<=P*K:=Nat.mul_le_mul_right _ h2;rw[Nat.add_mul]at h3;omega

end Go.Proofs.YtfdgkleoaehjaaaGreatDoor.M
namespace Go.Proofs.YtfdgkleoaehjaaaGreatDoor
open Go.RowKit
set_option linter.unusedVariables false
set_option maxRecDepth 100000

theorem fK (p:Nat):((2:Int)^p)=((2^p:Nat):Int):=by simp

theorem cT (a b:Nat)(ha:a<18446744073709551616)(hb:b<18446744073709551616):bits BinOp.or IntKind.u64 (a:Int) (b:Int)=((b|||a:Nat):Int):=by
 rw[u64_or_nat a b ha hb,Nat.or_comm]

theorem JF (x p cc:Nat)(hp:p<64)(hx:x<18446744073709551616)(hc:cc<2^p):
 bits BinOp.or IntKind.u64 (IntKind.u64.wrap ((x:Int)*2^p)) (cc:Int)=((cc+x%2^(64-p)*2^p:Nat):Int):=by
 have hKP:2^(64-p)*2^p=18446744073709551616:=M.fG p 64 (by omega);have hb:=(M.uO (K:=2^(64-p)) (P:=2^p) (x:=x) (cc:=cc) (Nat.pow_pos (by omega)) (Nat.pow_pos (by omega)) (by omega) hc).2.1
 have e1:IntKind.u64.wrap ((x:Int)*2^p)=((x%2^(64-p)*2^p:Nat):Int):=by
  rw[fK,<-Int.natCast_mul,iH,<-hKP,Nat.mul_mod_mul_right]
 rw[e1,cT _ _ (by omega) (by omega),kG cc _ p hc]

theorem fM (x k:Nat):(x:Int)/2^k=((x/2^k:Nat):Int):=by
 rw[fK];exact(Int.natCast_ediv x (2^k)).symm

theorem aS (ao:Option Addr)(n c s:Nat)(a:Nat)(w:World)(hl:(L a).length=n)(hn:n<=1048576)(hs:s<=100000)(hr:Rd w ao (L a)):
 Calls Tryz.prog 116 #[.slice ao n c,.int .i64 (s:Int)] w fun e w'=>Ret w w' e (L (a*2^s)):=by
 obtain⟨i0,hi,hz0,hz1,hz2⟩:=info_parts Tryz.infoU;obtain⟨q,hq⟩:∃q:Nat,q=s/64:=⟨_,rfl⟩;obtain⟨p,hp⟩:∃p:Nat,p=s%64:=⟨_,rfl⟩;have hqI:(s:Int)/64=(q:Int):=by omega
 have hpI:(s:Int)%64=(p:Int):=by omega
 have hpb:p<64:=by omega
 have hqb:q<=100000:=by omega
 have HQ:=hid hq;clear hq;have HP:=hid hp;clear hp
 have hmk:=fun(wx:World)=>run_make (P:=Tryz.prog) wx 87 25 i0 (.int .u64 0) Tryz.underlying87 hi hz0 .i64 .i64 ((q+n+1:Nat):Int) ((q+n+1:Nat):Int) (by omega) (Int.le_refl _) (by rw[hz2];omega) (by omega)
 have es:((q+n+1:Nat):Int)=(q:Int)+(n:Int)+1:=by omega
 rw[es]at hmk;have et:((q:Int)+(n:Int)+1).toNat=q+n+1:=by omega
 rw[et]at hmk;clear es et;have fa:=gP a;go_enter Tryz.func116,Tryz.ntmps116;go_wp2_with fail
 go_loopw [8,23] (fun cy i wr=>∃(k:Nat)(cur:List Nat)(cc:Nat),k<=n/\i=.int .i64 k/\cy=.int .u64 cc/\cc<2^p/\Blk wr w.heap.size cur/\cur.length=q+n+1/\F64 cur/\(∀j,q+k<=j->cur.getD j 0=0)/\V cur+cc*18446744073709551616^(q+k)=(18446744073709551616^q*2^p)*V ((L a).take k)/\Below w.heap.size w wr) (fun _ i _=>n-(intOf i).toNat)
 case atStart=>
  refine⟨0,List.replicate (q+n+1) 0,0,by omega,rfl,rfl,Nat.pow_pos (by omega),fL w (q+n+1),by simp,fun x hx=>by simp at hx;omega,fun j _=>?_,?_,(Below.refl _ _).alloc (Nat.le_refl _) _⟩
  . rw[List.getD_eq_getElem?_getD,List.getElem?_replicate];split<;>rfl
  . unfold V;rw[M.dL];simp[M.val]
 case round=>
  obtain⟨k,cur,cc,hk,rfl,rfl,hcc,hBk,hcl,hcf,hz,hv,hbl⟩:=hrel;clear hmk;have HZ:=hid hz;clear hz;have HV:=hid hv;clear hv;have HCL:=hid hcl;clear hcl
  by_cases hlt:k<n
  . obtain⟨b2,o2,hbo,hc2⟩:=(hr.below hbl) (by omega);have hck:=hc2 k (by omega);clear hc2;have hx1:=fa.get k;obtain⟨x,hxx⟩:∃x:Nat,x=(L a).getD k 0:=⟨_,rfl⟩;rw[<-hxx]at hck hx1;have HX:=hid hxx;clear hxx;have hlt':(k:Int)<(n:Int):=by omega
    have hltq:(q:Int)+(k:Int)<((q+n+1:Nat):Int):=by omega
    have hcs:=hBk.cell (q+k) (by have:=HCL.out;omega);rw[HZ.out (q+k) (by omega)]at hcs;have hfs:=hBk.frozen (q+k);have hKP:2^(64-p)*2^p=18446744073709551616:=M.fG p 64 (by omega);have hpl:=M.uO (K:=2^(64-p)) (P:=2^p) (x:=x) (cc:=cc) (Nat.pow_pos (by omega)) (Nat.pow_pos (by omega)) (by omega) hcc;rw[hKP]at hpl;have hwo:=JF x p cc hpb hx1 hcc;have hwc:=fM x (64-p);obtain⟨o,eo⟩:∃o:Nat,o=cc+x%2^(64-p)*2^p:=⟨_,rfl⟩;obtain⟨c',ec'⟩:∃c':Nat,c'=x/2^(64-p):=⟨_,rfl⟩;rw[<-eo]at hwo hpl;rw[<-ec']at hpl hwc;have HPL:=hid hpl;clear hpl hKP eo ec';clear hcc;have HB:=hid hBk;clear hBk;go_wp2_with fail;go_roundw
    case rel=>
     have R:∃(k1:Nat)(cur1:List Nat)(cc1:Nat),k1<=n/\Value.int .i64 ((k:Int)+1)=.int .i64 k1/\Value.int .u64 (c':Int)=.int .u64 cc1/\cc1<2^p/\Blk (wr.setCell ⟨w.heap.size,q+k,none⟩ (.int .u64 (o:Int))) w.heap.size cur1/\cur1.length=q+n+1/\F64 cur1/\(∀j,q+k1<=j->cur1.getD j 0=0)/\V cur1+cc1*18446744073709551616^(q+k1)=(18446744073709551616^q*2^p)*V ((L a).take k1)/\Below w.heap.size w (wr.setCell ⟨w.heap.size,q+k,none⟩ (.int .u64 (o:Int))):=by
      refine⟨k+1,cur.set (q+k) o,c',by omega,by go_num,rfl,HPL.out.2.2,HB.out.set _ _ _ rfl,by rw[List.length_set];exact HCL.out,?_,?_,?_,hbl.setCell (Nat.le_refl _) _⟩
      . intro v hv;rcases List.mem_or_eq_of_mem_set hv with hv|rfl
        . exact hcf v hv
        . exact HPL.out.2.1
      . intro j hj;rw[M.bO _ _ _ _ (by omega)];exact HZ.out j (by omega)
      . have e2:=M.jU 18446744073709551616 (q+k) cur o (by have:=HCL.out;omega);rw[HZ.out (q+k) (by omega),Nat.mul_zero,Nat.add_zero]at e2;have e3:=HV.out;unfold V at*;rw[M.aJ,<-HX.out,show q+(k+1)=q+k+1 by omega,Nat.pow_succ];rw[Nat.pow_add]at e2 e3|-;exact M.zJ e3 e2 HPL.out.1
     first|exact R|((repeat apply Exists.intro);exact⟨R,rfl⟩)|((repeat apply Exists.intro);exact⟨R,by rw[hbo]⟩)
    case measure=>simp[intOf];omega
  . have e:k=n:=by omega
    subst e;have hcs:=hBk.cell (q+k) (by have:=HCL.out;omega);rw[HZ.out (q+k) (by omega)]at hcs;have hfs:=hBk.frozen (q+k);have hlt':¬(k:Int)<(k:Int):=by omega
    have hltq:(q:Int)+(k:Int)<((q+k+1:Nat):Int):=by omega
    have hpp:2^p<=2^64:=Nat.pow_le_pow_right (by omega) (by omega);have hccb:cc<18446744073709551616:=by omega
    clear hpp;have HB:=hid hBk;clear hBk;have HCB:=hid hccb;clear hccb hcc;go_wp2_with fail;have hB2:Blk (wr.setCell ⟨w.heap.size,q+k,none⟩ (.int .u64 (cc:Int))) w.heap.size (cur.set (q+k) cc):=HB.out.set _ _ _ rfl;have hb2:Below w.heap.size w (wr.setCell ⟨w.heap.size,q+k,none⟩ (.int .u64 (cc:Int))):=hbl.setCell (Nat.le_refl _) _
    have hf2:F64 (cur.set (q+k) cc):=by
     intro v hv;rcases List.mem_or_eq_of_mem_set hv with hv|rfl
     . exact hcf v hv
     . exact HCB.out
    have hfin:V (cur.set (q+k) cc)=a*2^s:=by
     have e2:=M.jU 18446744073709551616 (q+k) cur cc (by have:=HCL.out;omega);rw[HZ.out (q+k) (by omega),Nat.mul_zero,Nat.add_zero]at e2;have e3:=HV.out;rw[List.take_of_length_le (by omega),V_L]at e3;unfold V at*;rw[e2,Nat.mul_comm (18446744073709551616^(q+k)) cc,e3,show(18446744073709551616:Nat)=2^64 from rfl,<-Nat.pow_mul,<-Nat.pow_add,Nat.mul_comm]
     congr 2
     have:=HQ.out;have:=HP.out;omega
    generalize wr.setCell ⟨w.heap.size,q+k,none⟩ (.int .u64 (cc:Int))=w2 at hB2 hb2|-;refine(dI _ (q+k+1) (q+k+1) _ _ (by rw[List.length_set];exact HCL.out) (Nat.le_refl _) (by omega) hf2 hB2.rd0).mono ?_;rw[hfin];rintro e w3 ⟨rfl,rfl⟩;go_wp2_with fail;go_ret;have h1:=nL _ hf2;have h2:=mV _ hf2;rw[hfin]at h1 h2;have h3:=hB2.ownPre (base:=w.heap.size) (c:=q+k+1) (Nat.le_refl _) h1 (by rw[List.length_set];exact HCL.out) (by unfold maxLen;omega);rw[h2]at h3;exact⟨_,_,rfl,h3,hb2⟩

theorem J4 (x p t:Nat)(hp:p<64)(hx:x<18446744073709551616)(ht:t<2^p):
 bits BinOp.or IntKind.u64 ((x:Int)/2^p) ((t*2^(64-p):Nat):Int)=((x/2^p+t*2^(64-p):Nat):Int):=by
 have hKP:2^(64-p)*2^p=18446744073709551616:=M.fG p 64 (by omega);have h1:x/2^p<2^(64-p):=Nat.div_lt_of_lt_mul (by rw[Nat.mul_comm];omega)
 have h2:t*2^(64-p)<18446744073709551616:=by
  have:t*2^(64-p)<2^p*2^(64-p):=Nat.mul_lt_mul_of_pos_right ht (Nat.pow_pos (by omega));rw[Nat.mul_comm (2^p)]at this;omega
 have h3:x/2^p<=x:=Nat.div_le_self _ _;rw[fM,u64_or_nat _ _ (by omega) h2,kG _ _ _ h1]

theorem FK (x p:Nat)(hp:p<64):IntKind.u64.wrap ((x:Int)*2^(64-p))=((x%2^p*2^(64-p):Nat):Int):=by
 have hKP:2^p*2^(64-p)=18446744073709551616:=by rw[Nat.mul_comm];exact M.fG p 64 (by omega)
 rw[fK,<-Int.natCast_mul,iH,<-hKP,Nat.mul_mod_mul_right]

theorem sS (xs:List Nat)(k:Nat)(h:k<xs.length):V (xs.drop k)=xs.getD k 0+18446744073709551616*V (xs.drop (k+1)):=by
 rw[List.drop_eq_getElem_cons h];unfold V;rw[M.val,List.getD_eq_getElem?_getD,List.getElem?_eq_getElem h]
 rfl

theorem sP (ao:Option Addr)(n c s:Nat)(a:Nat)(w:World)(hl:(L a).length=n)(hc:n<=c)(hn:n<=1048576)(hs:s<=100000)(hr:Rd w ao (L a)):
 Calls Tryz.prog 169 #[.slice ao n c,.int .i64 (s:Int)] w fun e w'=>Ret w w' e (L (a/2^s)):=by
 obtain⟨q,hq⟩:∃q:Nat,q=s/64:=⟨_,rfl⟩;obtain⟨p,hp⟩:∃p:Nat,p=s%64:=⟨_,rfl⟩;have hqI:(s:Int)/64=(q:Int):=by omega
 have hpI:(s:Int)%64=(p:Int):=by omega
 have hpb:p<64:=by omega
 have hqb:q<=100000:=by omega
 have HQ:=hid hq;clear hq;have HP:=hid hp;clear hp;have fa:=gP a
 have hsq:2^s=18446744073709551616^q*2^p:=by
  rw[show(18446744073709551616:Nat)=2^64 from rfl,<-Nat.pow_mul,<-Nat.pow_add]
  congr 1
  have:=HQ.out;have:=HP.out;omega
 have HSQ:=hid hsq;clear hsq
 by_cases hqn:n<=q
 . have hz:a/2^s=0:=by
    apply Nat.div_eq_of_lt
    have h1:=sZ a q (by omega);rw[HSQ.out];exact Nat.lt_of_lt_of_le h1 (Nat.le_mul_of_pos_right _ (Nat.pow_pos (by omega)))
   rw[hz,show L 0=[]from M.aH _];clear hz;go_enter Tryz.func169,Tryz.ntmps169;go_wp2_with fail;go_ret;exact Ret.nil (Below.refl _ _)
 . have hqn':¬(n:Int)<=(q:Int):=by omega
   obtain⟨b0,o0,hao,hcl⟩:=hr (by omega)
   have hrd:Rd w (some ⟨b0,o0+q,none⟩) ((L a).drop q):=by
    intro hp
    refine⟨b0,o0+q,rfl,fun i hi=>?_⟩
    have:=hcl (q+i) (by simp at hi;omega);rw[Nat.add_assoc,this]
    simp[List.getD_eq_getElem?_getD]
   have hdl:((L a).drop q).length=n-q:=by simp[hl]
   have hne:¬c=q:=by omega
   have fd:F64 ((L a).drop q):=fun x hx=>fa x (List.mem_of_mem_drop hx)
   have hvd:V ((L a).drop q)=a/18446744073709551616^q:=by
    have h1:=M.dW 18446744073709551616 ((L a).take q) ((L a).drop q);rw[List.take_append_drop]at h1;have h2:((L a).take q).length=q:=by simp;omega
    have h3:=M.gJ (B:=18446744073709551616) (by omega) ((L a).take q) (fun x hx=>fa x (List.mem_of_mem_take hx))
    rw[h2]at h1 h3
    have h4:a=M.val 18446744073709551616 ((L a).take q)+18446744073709551616^q*V ((L a).drop q):=by
     conv=>lhs;rw[<-V_L a]
     exact h1
    conv=>rhs;rw[h4]
    rw[Nat.add_mul_div_left _ _ (Nat.pow_pos (by omega)),Nat.div_eq_of_lt h3,Nat.zero_add]
   obtain⟨xs,hxs⟩:∃xs,xs=(L a).drop q:=⟨_,rfl⟩;rw[<-hxs]at hrd hdl fd hvd;clear hxs hcl;obtain⟨m,hm⟩:∃m,m=n-q:=⟨_,rfl⟩;have hmI:n-q=m:=hm.symm;rw[hmI]at hdl;have hmb:m<=1048576:=by omega
   have HVD:=hid hvd;clear hvd;have HDL:=hid hdl;clear hdl;clear hm;go_enter Tryz.func169,Tryz.ntmps169;go_wp2_with fail;refine(jF _ m (c-q) 0 xs _ HDL.out (by omega) (by omega) hrd).mono ?_;rw[List.replicate_zero,List.append_nil];rintro e w1 ⟨rfl,hB1,hb1⟩;have HB1:=hid hB1;clear hB1;have Hb1:=hid hb1;clear hb1;go_wp2_with fail
   go_loopw [8,9] (fun cy i wr=>∃(k:Nat)(cur:List Nat),k<=m/\i=.int .i64 ((k:Int)-1)/\cy=.int .u64 ((V (xs.drop k)%2^p*2^(64-p):Nat):Int)/\Blk wr w.heap.size cur/\cur.length=m/\F64 cur/\(∀j,j<k->cur.getD j 0=xs.getD j 0)/\V (cur.drop k)=V (xs.drop k)/2^p/\Below w.heap.size w wr) (fun _ i _=>(intOf i+1).toNat)
   case atStart=>
    refine⟨m,xs,by omega,by go_num,?_,HB1.out,HDL.out,fd,fun _ _=>rfl,?_,Hb1.out⟩
    . rw[List.drop_of_length_le (by have:=HDL.out;omega)];simp[V,M.val]
    . rw[List.drop_of_length_le (by have:=HDL.out;omega)];simp[V,M.val]
   case round=>
    obtain⟨k,cur,hk,rfl,rfl,hBk,hcl,hcf,hz,hv,hbl⟩:=hrel;have HZ:=hid hz;clear hz;have HV:=hid hv;clear hv;have HCL:=hid hcl;clear hcl
    by_cases hlt:0<k
    . obtain⟨k,rfl⟩:∃k',k=k'+1:=⟨k-1,by omega⟩;have e1:(((k+1:Nat):Int)-1)=(k:Int):=by omega
      rw[e1];have hcs:=hBk.cell k (by have:=HCL.out;omega);have hfs:=hBk.frozen k;rw[HZ.out k (by omega)]at hcs;have hx1:xs.getD k 0<18446744073709551616:=F64.get fd k;obtain⟨x,hxx⟩:∃x:Nat,x=xs.getD k 0:=⟨_,rfl⟩;rw[<-hxx]at hcs hx1;have HX:=hid hxx;clear hxx;obtain⟨T,hT⟩:∃T:Nat,T=V (xs.drop (k+1)):=⟨_,rfl⟩;rw[<-hT];have hKP:2^(64-p)*2^p=18446744073709551616:=M.fG p 64 (by omega);have hwo:=J4 x p (T%2^p) hpb hx1 (Nat.mod_lt _ (Nat.pow_pos (by omega)));have hwc:=FK x p hpb;have hpl:=M.FD (K:=2^(64-p)) (P:=2^p) (x:=x) (T:=T) (Nat.pow_pos (by omega)) (Nat.pow_pos (by omega));have hob:=M.PI (K:=2^(64-p)) (P:=2^p) (x:=x) (T:=T) (Nat.pow_pos (by omega)) (by omega);rw[Nat.mul_comm (2^p) (2^(64-p)),hKP]at hob;rw[hKP]at hpl;obtain⟨o,eo⟩:∃o:Nat,o=x/2^p+T%2^p*2^(64-p):=⟨_,rfl⟩;rw[<-eo]at hwo hpl hob;obtain⟨ci,eci⟩:∃ci:Nat,ci=T%2^p*2^(64-p):=⟨_,rfl⟩;rw[<-eci]at hwo|-;obtain⟨c',ec'⟩:∃c':Nat,c'=x%2^p*2^(64-p):=⟨_,rfl⟩;rw[<-ec']at hwc;have HPL:=hid hpl;have HOB:=hid hob;have HT:=hid hT;have HC':=hid ec';clear hpl hob hKP eo eci ec' hT;have HB:=hid hBk;clear hBk;have hltk:(k:Int)<(m:Int):=by omega
      go_wp2_with fail;go_roundw
      case rel=>
       have R:∃(k1:Nat)(cur1:List Nat),k1<=m/\Value.int .i64 ((k:Int)-1)=.int .i64 ((k1:Int)-1)/\Value.int .u64 (c':Int)=.int .u64 ((V (xs.drop k1)%2^p*2^(64-p):Nat):Int)/\Blk (wr.setCell ⟨w.heap.size,k,none⟩ (.int .u64 (o:Int))) w.heap.size cur1/\cur1.length=m/\F64 cur1/\(∀j,j<k1->cur1.getD j 0=xs.getD j 0)/\V (cur1.drop k1)=V (xs.drop k1)/2^p/\Below w.heap.size w (wr.setCell ⟨w.heap.size,k,none⟩ (.int .u64 (o:Int))):=by
        have hd:=sS xs k (by have:=HDL.out;omega);rw[<-HX.out,<-HT.out]at hd;refine⟨k,cur.set k o,by omega,rfl,?_,HB.out.set _ _ _ rfl,by rw[List.length_set];exact HCL.out,?_,?_,?_,hbl.setCell (Nat.le_refl _) _⟩
        . rw[hd,HPL.out.2,HC'.out]
        . intro v hv;rcases List.mem_or_eq_of_mem_set hv with hv|rfl
          . exact hcf v hv
          . exact HOB.out
        . intro j hj;rw[M.bO _ _ _ _ (by omega)];exact HZ.out j (by omega)
        . rw[sS _ k (by rw[List.length_set];have:=HCL.out;omega),M.bQ _ _ _ (by have:=HCL.out;omega),List.drop_set_of_lt (by omega),HV.out,hd,<-HT.out];exact HPL.out.1
       first|exact R|((repeat apply Exists.intro);exact⟨R,rfl⟩)|((repeat apply Exists.intro);exact⟨R,by rw[hao]⟩)
      case measure=>simp[intOf]
    . have:k=0:=by omega
      subst this
      have hfin:V cur=a/2^s:=by
       have:=HV.out;rw[List.drop_zero,List.drop_zero,HVD.out,Nat.div_div_eq_div_mul,<-HSQ.out]at this;exact this
      go_wp2_with fail;refine(dI _ m m cur _ HCL.out (Nat.le_refl _) (by omega) hcf hBk.rd0).mono ?_;rw[hfin];rintro e w3 ⟨rfl,rfl⟩;go_wp2_with fail;go_ret;have h1:=nL cur hcf;have h2:=mV cur hcf;rw[hfin]at h1 h2;have h3:=hBk.ownPre (base:=w.heap.size) (c:=m) (Nat.le_refl _) h1 HCL.out (by unfold maxLen;omega);rw[h2]at h3;exact⟨_,_,rfl,h3,hbl⟩

theorem M.shl32 (x p cc:Nat)(hp:p<32)(hx:x<4294967296)(hc:cc<2^p):
 x*2^p+cc<9223372036854775808/\(x*2^p+cc)/4294967296<2^p:=by
 have h1:2^p<=2^31:=Nat.pow_le_pow_right (by omega) (by omega);have h2:(x+1)*2^p<=4294967296*2^p:=Nat.mul_le_mul_right _ hx;rw[Nat.add_mul]at h2
 constructor
 . have:4294967296*2^p<=4294967296*2^31:=Nat.mul_le_mul_left _ h1;omega
 . exact Nat.div_lt_of_lt_mul (by omega)

theorem BL (x p cc:Nat)(hp:p<32)(hx:x<4294967296)(hc:cc<2^p):
 bits BinOp.or IntKind.u64 (IntKind.u64.wrap ((x:Int)*2^p)) (cc:Int)=((x*2^p+cc:Nat):Int):=by
 have hb:=(M.shl32 x p cc hp hx hc).1
 have e1:IntKind.u64.wrap ((x:Int)*2^p)=((x*2^p:Nat):Int):=by
  rw[fK,<-Int.natCast_mul,iH,Nat.mod_eq_of_lt (by omega)]
 have h1:2^p<=2^31:=Nat.pow_le_pow_right (by omega) (by omega);rw[e1,cT _ _ (by omega) (by omega),kG cc x p hc,Nat.add_comm]

theorem oG (s:Nat)(hs:s<18446744073709551616):bits BinOp.and IntKind.u64 (s:Int) 4294967295=((s%4294967296:Nat):Int):=by
 rw[and_low32 _ (by omega) (by omega)];omega

theorem aN (ao:Option Addr)(n c s:Nat)(a:Nat)(w:World)(hl:(D a).length=n)(hn:n<=1048576)(hs:s<=100000)(hr:Rd w ao (D a)):
 Calls Tryz.prog 42 #[.slice ao n c,.int .i64 (s:Int)] w fun e w'=>Ret w w' e (D (a*2^s)):=by
 obtain⟨i0,hi,hz0,hz1,hz2⟩:=info_parts Tryz.infoU;obtain⟨q,hq⟩:∃q:Nat,q=s/32:=⟨_,rfl⟩;obtain⟨p,hp⟩:∃p:Nat,p=s%32:=⟨_,rfl⟩;have hqI:(s:Int)/32=(q:Int):=by omega
 have hpI:(s:Int)%32=(p:Int):=by omega
 have hpb:p<32:=by omega
 have hqb:q<=100000:=by omega
 have HQ:=hid hq;clear hq;have HP:=hid hp;clear hp
 have hsq:2^s=4294967296^q*2^p:=by
  rw[show(4294967296:Nat)=2^32 from rfl,<-Nat.pow_mul,<-Nat.pow_add]
  congr 1
  have:=HQ.out;have:=HP.out;omega
 have HSQ:=hid hsq;clear hsq
 have hmk:=fun(wx:World)=>run_make (P:=Tryz.prog) wx 56 25 i0 (.int .u64 0) Tryz.underlying56 hi hz0 .i64 .i64 (q:Int) (q:Int) (by omega) (Int.le_refl _) (by rw[hz2];omega) (by omega)
 have fa:=iD a;go_enter Tryz.func42,Tryz.ntmps42;go_wp2_with fail
 go_loopw [5,6,7] (fun v cy i wr=>∃(k:Nat)(os:List Nat)(cc:Nat),k<=n+1/\i=.int .i64 k/\cy=.int .u64 cc/\cc<2^p/\wr.ownsRow w.heap.size 25 1 v (q+k) (U os)/\F32 os/\os.length=q+k/\X os+cc*4294967296^(q+k)=(4294967296^q*2^p)*X ((D a).take k)/\Below w.heap.size w wr) (fun _ _ i _=>n+1-(intOf i).toNat)
 case atStart=>
  refine⟨0,List.replicate q 0,0,by omega,rfl,rfl,Nat.pow_pos (by omega),?_,fun x hx=>by simp at hx;omega,by simp,?_,(Below.refl _ _).alloc (Nat.le_refl _) _⟩
  . exact(fL w q).own (Nat.le_refl _) (by simp) (by unfold maxLen;omega)
  . unfold X;rw[M.dL];simp[M.val]
 case round=>
  obtain⟨k,os,cc,hk,rfl,rfl,hcc,hown,hf,hlen,hv,hbl⟩:=hrel;clear hmk;have HV:=hid hv;clear hv;have HLen:=hid hlen;clear hlen
  by_cases hlt:k<=n
  . obtain⟨x,hxx⟩:∃x:Nat,x=(D a).getD k 0:=⟨_,rfl⟩;have hx1:=fa.get k;rw[<-hxx]at hx1;have HX:=hid hxx;clear hxx;have hlt':(k:Int)<=(n:Int):=by omega
    have hwo:=BL x p cc hpb hx1 hcc;have hbb:=M.shl32 x p cc hpb hx1 hcc;obtain⟨t,ht⟩:∃t:Nat,t=x*2^p+cc:=⟨_,rfl⟩;rw[<-ht]at hwo hbb;have hlow:=oG t (by omega);have hhi:(t:Int)/4294967296=((t/4294967296:Nat):Int):=by omega
    obtain⟨o,eo⟩:∃o:Nat,o=t%4294967296:=⟨_,rfl⟩;rw[<-eo]at hlow;have hsum:o+4294967296*(t/4294967296)=x*2^p+cc/\o<4294967296:=by omega
    have E1:=hid hsum;have E2:=hid hbb;have E3:=hid ht;have E4:=hid eo;have E5:=hid hhi;clear hsum hbb ht eo hhi hcc;go_wp2_with fail;refine(cO ao _ c k (D a) _ hl (by omega) (by omega) (hr.below hbl) x HX.out).mono ?_;rintro e w2 ⟨rfl,rfl⟩
    go_wp2_with (at_builtin;refine wpList_append_own _ rfl _ _ 56 rfl w.heap.size 25 i0 (.int .u64 0) 1 8 Tryz.underlying56 hi hz0 hz1 hz2 rfl (by decide) _ _ _ rfl (hown.alloc _) ⟨w2.heap.size,0,none⟩ 1 1 (U [o]) rfl rfl ?c1 ?c2 ?c3 ?c4 ?c5 ?_)
    case c1=>
     intro j u hj
     match j,hj with
     |0,hj=>simp[U]at hj;subst hj;simp[Addr.add]
    case c2=>exact i7 _
    case c3=>unfold maxLen;omega
    case c4=>omega
    case c5=>have:=hbl.size;simp;omega
    intro v' w1 hown' hgrow hnn;clear hnn
    have hb1:Below w.heap.size w w1:=(hbl.alloc hbl.size _).grown hgrow (by have:=hbl.size;simp;omega) (fun k' hk'=>(hown.lt k' hk').1)
    clear hown hgrow;go_wp2_with fail;go_roundw
    case rel=>
     have R:∃(k1:Nat)(os1:List Nat)(cc1:Nat),k1<=n+1/\Value.int .i64 ((k:Int)+1)=.int .i64 k1/\Value.int .u64 ((t:Int)/4294967296)=.int .u64 cc1/\cc1<2^p/\w1.ownsRow w.heap.size 25 1 v' (q+k1) (U os1)/\F32 os1/\os1.length=q+k1/\X os1+cc1*4294967296^(q+k1)=(4294967296^q*2^p)*X ((D a).take k1)/\Below w.heap.size w w1:=by
      refine⟨k+1,os++[o],t/4294967296,by omega,by go_num,by rw[E5.out],E2.out.2,?_,?_,by simp[HLen.out];omega,?_,hb1⟩
      . rw[dH];exact hown'
      . intro z hz;rcases List.mem_append.1 hz with hz|hz
        . exact hf z hz
        . simp at hz;have:=E1.out.2;omega
      . have e3:=HV.out;unfold X at*;rw[M.aJ,<-HX.out,show q+(k+1)=q+k+1 by omega,Nat.pow_succ,M.iA,HLen.out];rw[Nat.pow_add]at e3|-;exact M.zJ e3 rfl E1.out.1
     first|exact R|((repeat apply Exists.intro);exact⟨R,rfl⟩)
    case measure=>simp[intOf];omega
  . have e:k=n+1:=by omega
    have hfin:X os=a*2^s:=by
     have h1:=HV.out;rw[lZ a k (by omega),<-HSQ.out]at h1;have h2:=mZ a n (by omega);rw[Nat.mul_comm a];refine(M.sW h1 ?_).2;rw[HSQ.out,e,show q+(n+1)=q+1+n by omega,Nat.pow_add,Nat.pow_succ];have h3:2^p<=4294967296:=Nat.le_trans (Nat.pow_le_pow_right (by omega) (show p<=32 by omega)) (by omega);have h4:4294967296^q*2^p<=4294967296^q*4294967296:=Nat.mul_le_mul_left _ h3;exact Nat.lt_of_lt_of_le (Nat.mul_lt_mul_of_pos_left h2 (Nat.mul_pos (Nat.pow_pos (by omega)) (Nat.pow_pos (by omega)))) (Nat.mul_le_mul_right _ h4)
    have hv:=fF hown;obtain⟨ao1,cap1,hv⟩:=hv;rw[hv];rw[hv]at hown;have hlt':¬(k:Int)<=(n:Int):=by omega
    clear e hv hcc;have HF:=hid hfin;clear hfin;go_wp2_with fail;have hrd:=Rd.own hown;refine(bZ 4294967296 (by omega) ao1 _ cap1 os _ HLen.out (bF hown) (by omega) hf hrd).mono ?_;have hfin:M.val 4294967296 os=a*2^s:=HF.out;rw[hfin];rintro e w1 ⟨ao',cap',rfl,ho,hb⟩;go_wp2_with fail;go_ret;exact⟨ao',cap',rfl,aM ho hbl.size,hbl.trans (hb.mono hbl.size)⟩

theorem M.shr_digit {C P Q A k:Nat}(hC:0<C)(hP:0<P)(hCP:C=Q*P):((A/C^k)%(C*C)/P)%C=A/P/C^k%C:=by
 have e1:C*C=P*(Q*C):=by rw[<-Nat.mul_assoc,Nat.mul_comm P Q,<-hCP]
 rw[e1,Nat.mod_mul_right_div_self,Nat.mod_mul_left_mod,Nat.div_div_eq_div_mul,Nat.div_div_eq_div_mul,Nat.mul_comm]

theorem M.two_digits (C Z:Nat)(hC:0<C):Z%C+(Z/C)%C*C=Z%(C*C):=by
 rw[Nat.mod_mul,Nat.mul_comm C]

theorem M.dig_get {B:Nat}(hB:1<B)(k:Nat):∀n,(M.dig B n).getD k 0=n/B^k%B:=by
 induction k with
 |zero=>
  intro n
  by_cases hn:0<n
  . rw[M.aV hB hn];simp
  . have:n=0:=by omega
    subst this;simp[M.aH]
 |succ k ih=>
  intro n
  by_cases hn:0<n
  . rw[M.aV hB hn,List.getD_cons_succ,ih,Nat.div_div_eq_div_mul,Nat.pow_succ,Nat.mul_comm B]
  . have:n=0:=by omega
    subst this;simp[M.aH]

theorem yF (a k:Nat):(D a).getD k 0=a/4294967296^k%4294967296:=M.dig_get (by omega) k a

theorem gI (ao:Option Addr)(n c s:Nat)(a:Nat)(w:World)(hl:(D a).length=n)(hn:n<=1048576)(hs:s<=100000)(hr:Rd w ao (D a)):
 Calls Tryz.prog 61 #[.slice ao n c,.int .i64 (s:Int)] w fun e w'=>Ret w w' e (D (a/2^s)):=by
 obtain⟨i0,hi,hz0,hz1,hz2⟩:=info_parts Tryz.infoU;obtain⟨q,hq⟩:∃q:Nat,q=s/32:=⟨_,rfl⟩;obtain⟨p,hp⟩:∃p:Nat,p=s%32:=⟨_,rfl⟩;have hqI:(s:Int)/32=(q:Int):=by omega
 have hpI:(s:Int)%32=(p:Int):=by omega
 have hpb:p<32:=by omega
 have hqb:q<=100000:=by omega
 have HQ:=hid hq;clear hq;have HP:=hid hp;clear hp
 have hsq:2^s=4294967296^q*2^p:=by
  rw[show(4294967296:Nat)=2^32 from rfl,<-Nat.pow_mul,<-Nat.pow_add]
  congr 1
  have:=HQ.out;have:=HP.out;omega
 have HSQ:=hid hsq;clear hsq;have fa:=iD a;obtain⟨A,hA⟩:∃A:Nat,A=a/4294967296^q:=⟨_,rfl⟩;have HA:=hid hA;clear hA;go_enter Tryz.func61,Tryz.ntmps61;go_wp2_with fail
 go_loopw [5,6] (fun v i wr=>∃(k:Nat)(os:List Nat),(k=0\/q+k<=n)/\i=.int .i64 ((q:Int)+(k:Int))/\wr.ownsRow w.heap.size 25 1 v k (U os)/\F32 os/\os.length=k/\X os=A/2^p%4294967296^k/\Below w.heap.size w wr) (fun _ i _=>n-(intOf i).toNat)
 case atStart=>exact⟨0,[],Or.inl rfl,by simp,World.ownsRow_nil _ _ _ _,fun x hx=>by simp at hx,rfl,by simp[X,M.val,Nat.mod_one],Below.refl _ _⟩
 case round=>
  obtain⟨k,os,hk,rfl,hown,hf,hlen,hv,hbl⟩:=hrel;have HV:=hid hv;clear hv;have HLen:=hid hlen;clear hlen;have HK:=hid hk;clear hk
  by_cases hlt:q+k<n
  . obtain⟨x,hxx⟩:∃x:Nat,x=(D a).getD (q+k) 0:=⟨_,rfl⟩;obtain⟨y,hyy⟩:∃y:Nat,y=(D a).getD (q+k+1) 0:=⟨_,rfl⟩;have hx1:=fa.get (q+k);have hy1:=fa.get (q+k+1);rw[<-hxx]at hx1;rw[<-hyy]at hy1;have hdx:x=A/4294967296^k%4294967296:=by rw[hxx,yF,HA.out,Nat.div_div_eq_div_mul,Nat.pow_add]
    have hdy:y=A/4294967296^k/4294967296%4294967296:=by rw[hyy,yF,HA.out,Nat.div_div_eq_div_mul,Nat.div_div_eq_div_mul,Nat.pow_succ,Nat.pow_add,Nat.mul_assoc]
    have hlt':(q:Int)+(k:Int)<(n:Int):=by omega
    have hwo:=vX x y hx1 hy1;obtain⟨t,ht⟩:∃t:Nat,t=x+y*4294967296:=⟨_,rfl⟩;rw[<-ht]at hwo;have hdt:t=A/4294967296^k%(4294967296*4294967296):=by rw[ht,hdx,hdy,M.two_digits _ _ (by omega)]
    have hdc:=fM t p;have hlow:=oG (t/2^p) (Nat.lt_of_le_of_lt (Nat.div_le_self _ _) (by omega));obtain⟨o,eo⟩:∃o:Nat,o=t/2^p%4294967296:=⟨_,rfl⟩;rw[<-eo]at hlow
    have hdo:o=A/2^p/4294967296^k%4294967296:=by
     rw[eo,hdt];exact M.shr_digit (Q:=2^(32-p)) (by omega) (Nat.pow_pos (by omega)) (by rw[M.fG p 32 (by omega)])
    have hob:o<4294967296:=by rw[eo];omega
    have HX:=hid hxx;have HY:=hid hyy;have E1:=hid hdo;have E2:=hid hob;clear hxx hyy hdx hdy hdt ht eo hdo hob;generalize t/2^p=u at hdc hlow;go_wp2_with fail;refine(cO ao _ c (q+k) (D a) _ hl (by omega) (by omega) (hr.below hbl) x HX.out).mono ?_;rintro e w2 ⟨rfl,rfl⟩;go_wp2_with fail;refine(cO ao _ c (q+k+1) (D a) _ hl (by omega) (by omega) (hr.below hbl) y HY.out).mono ?_;rintro e w3 ⟨rfl,rfl⟩
    go_wp2_with (at_builtin;refine wpList_append_own _ rfl _ _ 56 rfl w.heap.size 25 i0 (.int .u64 0) 1 8 Tryz.underlying56 hi hz0 hz1 hz2 rfl (by decide) _ _ _ rfl (hown.alloc _) ⟨w3.heap.size,0,none⟩ 1 1 (U [o]) rfl rfl ?c1 ?c2 ?c3 ?c4 ?c5 ?_)
    case c1=>
     intro j u hj
     match j,hj with
     |0,hj=>simp[U]at hj;subst hj;simp[Addr.add]
    case c2=>exact i7 _
    case c3=>unfold maxLen;omega
    case c4=>omega
    case c5=>have:=hbl.size;simp;omega
    intro v' w1 hown' hgrow hnn;clear hnn
    have hb1:Below w.heap.size w w1:=(hbl.alloc hbl.size _).grown hgrow (by have:=hbl.size;simp;omega) (fun k' hk'=>(hown.lt k' hk').1)
    clear hown hgrow;go_wp2_with fail;go_roundw
    case rel=>
     have R:∃(k1:Nat)(os1:List Nat),(k1=0\/q+k1<=n)/\Value.int .i64 ((q:Int)+(k:Int)+1)=.int .i64 ((q:Int)+(k1:Int))/\w1.ownsRow w.heap.size 25 1 v' k1 (U os1)/\F32 os1/\os1.length=k1/\X os1=A/2^p%4294967296^k1/\Below w.heap.size w w1:=by
      refine⟨k+1,os++[o],Or.inr (by omega),by go_num,?_,?_,by simp[HLen.out],?_,hb1⟩
      . rw[dH];exact hown'
      . intro z hz;rcases List.mem_append.1 hz with hz|hz
        . exact hf z hz
        . simp at hz;have:=E2.out;omega
      . have e3:=HV.out;unfold X at*;rw[M.iA,HLen.out,e3,Nat.mod_pow_succ,<-E1.out]
     first|exact R|((repeat apply Exists.intro);exact⟨R,rfl⟩)
    case measure=>simp[intOf];omega
  . have hfin:X os=a/2^s:=by
     rw[HV.out,HSQ.out,<-Nat.div_div_eq_div_mul,<-HA.out]
     apply Nat.mod_eq_of_lt
     refine Nat.lt_of_le_of_lt (Nat.div_le_self _ _) ?_;have h2:=mZ a n (by omega);rw[HA.out]
     apply Nat.div_lt_of_lt_mul
     rw[<-Nat.pow_add];exact Nat.lt_of_lt_of_le h2 (Nat.pow_le_pow_right (by omega) (by have:=HK.out;omega))
    have hkb:k<=1048576:=by have:=HK.out;omega
    have hv:=fF hown;obtain⟨ao1,cap1,hv⟩:=hv;rw[hv];rw[hv]at hown;have hlt':¬(q:Int)+(k:Int)<(n:Int):=by omega
    clear hv;have HF:=hid hfin;clear hfin;go_wp2_with fail;have hrd:=Rd.own hown;refine(bZ 4294967296 (by omega) ao1 _ cap1 os _ HLen.out (bF hown) (by omega) hf hrd).mono ?_;have hfin:M.val 4294967296 os=a/2^s:=HF.out;rw[hfin];rintro e w1 ⟨ao',cap',rfl,ho,hb⟩;go_wp2_with fail;go_ret;exact⟨ao',cap',rfl,aM ho hbl.size,hbl.trans (hb.mono hbl.size)⟩

end Go.Proofs.YtfdgkleoaehjaaaGreatDoor
namespace Go.Proofs.YtfdgkleoaehjaaaGreatDoor.M
set_option linter.unusedVariables false
set_option maxRecDepth 100000

def hiN (X:Nat):Nat:=X/18446744073709551616

def loN (X:Nat):Nat:=X%18446744073709551616

theorem hl (X:Nat):X=hiN X*18446744073709551616+loN X:=by unfold hiN loN;omega

theorem kZ (X:Nat):loN X<18446744073709551616:=by unfold loN;omega

theorem mN {X:Nat}(h:X<2^128):hiN X<18446744073709551616:=by unfold hiN;omega

theorem NX {X Y:Nat}(h1:hiN X=hiN Y)(h2:loN X=loN Y):X=Y:=by rw[hl X,hl Y,h1,h2]

theorem I9 {X:Nat}(h:X<18446744073709551616):hiN X=0:=by unfold hiN;omega

theorem II {X:Nat}(h:X<18446744073709551616):loN X=X:=by unfold loN;omega

theorem FR (X n:Nat)(h:X<2^128)(hn:n<64):
 hiN (X*2^n%2^128)=(hiN X*2^n)%18446744073709551616+loN X/2^(64-n)/\loN (X*2^n%2^128)=loN X*2^n%18446744073709551616/\
 loN X/2^(64-n)<2^n/\∃k,(hiN X*2^n)%18446744073709551616=k*2^n:=by
 have hp:0<2^n:=Nat.pow_pos (by omega);have hq:0<2^(64-n):=Nat.pow_pos (by omega);have hB:2^(64-n)*2^n=18446744073709551616:=by rw[<-Nat.pow_add,show 64-n+n=64 by omega]
 have hX:=hl X;have h1:=kZ X;have h2:=mN h;generalize hiN X=a at*;generalize loN X=b at*;generalize 2^n=P at*;generalize 2^(64-n)=Q at*;have e1:b*P/18446744073709551616=b/Q:=by rw[<-hB,Nat.mul_div_mul_right _ _ hp]
 have c3:b/Q<P:=by apply Nat.div_lt_of_lt_mul;rw[hB];exact h1
 have e2:X*P=a*P*18446744073709551616+b*P:=by
  rw[hX,Nat.add_mul,Nat.mul_right_comm]
 have e3:X*P/18446744073709551616=a*P+b/Q:=by
  rw[e2,Nat.add_comm,Nat.add_mul_div_right _ _ (by omega),e1,Nat.add_comm]
 have e4:a*P%18446744073709551616=(a%Q)*P:=by rw[<-hB,Nat.mul_mod_mul_right]
 have c4:(a%Q)*P+P<=18446744073709551616:=by
  rw[<-hB];have:a%Q+1<=Q:=Nat.mod_lt _ hq;have:=Nat.mul_le_mul_right P this;rw[Nat.add_mul]at this;omega
 refine⟨?_,?_,c3,a%Q,e4⟩
 . unfold hiN;rw[show(2:Nat)^128=18446744073709551616*18446744073709551616 from rfl,Nat.mod_mul_right_div_self,e3,Nat.add_mod,e4];have h5:b/Q%18446744073709551616=b/Q:=Nat.mod_eq_of_lt (by have:=Nat.div_le_self b Q;omega);rw[h5,Nat.mod_eq_of_lt (by omega)]
 . unfold loN;rw[show(2:Nat)^128=18446744073709551616*18446744073709551616 from rfl,Nat.mod_mul_right_mod,e2,Nat.mul_add_mod_self_right]

theorem FN (X n:Nat)(h:X<2^128)(hn:64<=n)(hm:n<128):
 hiN (X*2^n%2^128)=loN X*2^(n-64)%18446744073709551616/\loN (X*2^n%2^128)=0:=by
 have hX:=hl X
 have hB:2^n=2^(n-64)*18446744073709551616:=by
  rw[show(18446744073709551616:Nat)=2^64 from rfl,<-Nat.pow_add];congr 1;omega
 rw[hB];generalize hiN X=a at*;generalize loN X=b at*;generalize 2^(n-64)=P at*
 have e:X*(P*18446744073709551616)%2^128=(b*P%18446744073709551616)*18446744073709551616:=by
  rw[<-Nat.mul_assoc,show(2:Nat)^128=18446744073709551616*18446744073709551616 from rfl,Nat.mul_mod_mul_right,hX,Nat.add_mul,Nat.mul_right_comm,Nat.mul_add_mod_self_right]
 rw[e];unfold hiN loN;omega

theorem L4 (X Y:Nat)(hX:X<2^128)(hY:Y<2^128):
 loN ((X+Y)%2^128)=(loN X+loN Y)%18446744073709551616/\
 hiN ((X+Y)%2^128)=(hiN X+hiN Y+(if(loN X+loN Y)%18446744073709551616<loN Y then 1 else 0))%18446744073709551616:=by
 have a:=hl X;have b:=hl Y;have a1:=kZ X;have b1:=kZ Y;have a2:=mN hX;have b2:=mN hY;generalize hiN X=xh at*;generalize loN X=xl at*;generalize hiN Y=yh at*;generalize loN Y=yl at*;unfold hiN loN
 by_cases h:(xl+yl)%18446744073709551616<yl
 . simp only[h,if_true];omega
 . simp only[h,if_false];omega

theorem LN (X Y:Nat)(hX:X<2^128)(hY:Y<2^128):
 loN ((X+(2^128-Y))%2^128)=(loN X+18446744073709551616-loN Y)%18446744073709551616/\
 hiN ((X+(2^128-Y))%2^128)=(hiN X+36893488147419103232-hiN Y-(if loN X<loN Y then 1 else 0))%18446744073709551616:=by
 have a:=hl X;have b:=hl Y;have a1:=kZ X;have b1:=kZ Y;have a2:=mN hX;have b2:=mN hY;generalize hiN X=xh at*;generalize loN X=xl at*;generalize hiN Y=yh at*;generalize loN Y=yl at*;unfold hiN loN
 by_cases h:xl<yl
 . simp only[h,if_true];omega
 . simp only[h,if_false];omega

end Go.Proofs.YtfdgkleoaehjaaaGreatDoor.M
namespace Go.Proofs.YtfdgkleoaehjaaaGreatDoor
open Go.RowKit
set_option linter.unusedVariables false
set_option maxRecDepth 100000

theorem dG (a:Nat)(h:a<2^192):(D a).length<=6:=by
 apply M.len_of_lt (by omega)
 rw[show(4294967296:Nat)=2^32 from rfl,<-Nat.pow_mul];exact h

theorem NV (a k:Nat):(L a).getD k 0=a/18446744073709551616^k%18446744073709551616:=M.dig_get (by omega) k a

theorem uJ (xs:List Nat)(k:Nat):(xs++[0,0]).getD k 0=xs.getD k 0:=by
 rcases Nat.lt_or_ge k xs.length with h|h
 . simp[List.getD_eq_getElem?_getD,List.getElem?_append_left h]
 . rw[List.getD_eq_getElem?_getD,List.getD_eq_getElem?_getD,List.getElem?_append_right h,List.getElem?_eq_none (by omega:xs.length<=k)]
   rcases k-xs.length with _|_|m<;>simp

theorem fC (ao:Option Addr)(n c:Nat)(a:Nat)(w:World)(hl:(D a).length=n)(ha:a<2^128)(hr:Rd w ao (D a)):
 Calls Tryz.prog 62 #[.slice ao n c] w fun e w'=>e=.returned (.agg #[.int .u64 (M.hiN a:Int),.int .u64 (M.loN a:Int)])/\Below w.heap.size w w':=by
 obtain⟨i0,hi,hz0,hz1,hz2⟩:=info_parts Tryz.infoU;have hn:n<=6:=by rw[<-hl];exact dG a (by omega)
 have hL:(L a).length<=4:=M.len_of_lt (by omega) _ _ (by omega);have g0:(L a++[0,0]).getD 0 0=M.loN a:=by rw[uJ,NV];simp[M.loN]
 have g1:(L a++[0,0]).getD 1 0=M.hiN a:=by rw[uJ,NV];have:=M.mN ha;unfold M.hiN at*;simp;omega
 have G0:=hid g0;have G1:=hid g1;clear g0 g1;generalize M.hiN a=h at*;generalize M.loN a=l at*;go_enter Tryz.func62,Tryz.ntmps62;go_wp2_with fail;have b0:Below w.heap.size w (w.alloc (.cells #[.int .u64 0,.int .u64 0] 27)):=(Below.refl _ _).alloc (Nat.le_refl _) _;refine(mK ao n c a _ hl (by omega) (hr.below b0)).mono ?_;rintro e w1 ⟨ao1,cap1,rfl,ho1,hb1⟩;have hc1:=(DA hb1).1;have hf1:=(DA hb1).2;have b1:=b0.trans (hb1.mono b0.size);have hz:w.heap.size<w1.heap.size:=by have:=hb1.size;simp at this;omega
 go_wp2_with (at_builtin;refine wpList_append_own _ rfl _ _ 56 rfl (w.heap.size+1) 25 i0 (.int .u64 0) 1 8 Tryz.underlying56 hi hz0 hz1 hz2 rfl (by decide) _ _ _ rfl ((aM ho1 (by simp)).alloc _) ⟨w1.heap.size,0,none⟩ 2 2 (U [0,0]) rfl rfl ?c1 ?c2 ?c3 ?c4 ?c5 ?_)
 case c1=>
  intro j u hj
  match j,hj with
  |0,hj=>simp[U]at hj;subst hj;simp[Addr.add]
  |1,hj=>simp[U]at hj;subst hj;simp[Addr.add]
 case c2=>exact i7 _
 case c3=>unfold maxLen;omega
 case c4=>omega
 case c5=>have:=hb1.size;simp at this|-;omega
 intro v' w2 hown' hgrow hnn;clear hnn
 have hb2:Below (w.alloc (.cells #[.int .u64 0,.int .u64 0] 27)).heap.size (w.alloc (.cells #[.int .u64 0,.int .u64 0] 27)) w2:=
  (hb1.alloc hb1.size _).grown hgrow (by have:=hb1.size;simp at this|-;omega) (fun k hk=>(ho1.lt k hk).1)
 have b2:=b0.trans (hb2.mono b0.size);rw[<-dH]at hown';obtain⟨ao2,cap2,hv⟩:=fF hown';subst hv;have hcap:=bF hown';have hrd:=Rd.own hown';obtain⟨b,off,hao,hcl⟩:=hrd (by simp);subst hao;have hbge:w.heap.size+1<=b:=(hown'.lt b rfl).1;have k0:=hcl 0 (by simp);have k1:=hcl 1 (by simp);rw[G0.out]at k0;rw[G1.out]at k1;rw[Nat.add_zero]at k0;have hne:w.heap.size≠b:=by omega
 have hlt:b<w2.heap.size:=World.block_lt_of_cell? w2 ⟨b,off,none⟩ k0;have r0:w2.cell? ⟨w.heap.size,0,none⟩=some (.int .u64 0):=(hb2.cell (by simp)).trans (by simp[go_sem]);have r1:w2.cell? ⟨w.heap.size,1,none⟩=some (.int .u64 0):=(hb2.cell (by simp)).trans (by simp[go_sem]);have z0:w2.frozen? ⟨w.heap.size,0,none⟩=false:=(hb2.frozen (by simp)).trans (by simp[go_sem]);have z1:w2.frozen? ⟨w.heap.size,1,none⟩=false:=(hb2.frozen (by simp)).trans (by simp[go_sem]);clear hown' hgrow hrd hcl ho1 hb1 hb2 hc1 hf1 b1 hz;generalize(L a).length=m at*;have m1:(1:Int)<(m:Int)+2:=by omega
 have m0:(0:Int)<(m:Int)+2:=by omega
 go_wp2_with fail
 go_region_held3 (fun v=>v.cell? ⟨b,off,none⟩=some (.int .u64 (l:Int))/\v.cell? ⟨b,off+1,none⟩=some (.int .u64 (h:Int))) (go_keep) (fail)
 go_wp2_with fail;exact bodyPost_ret (v:=.agg #[.int .u64 (h:Int),.int .u64 (l:Int)]) (by simp[results,Tryz.results62,go_sem,r0,r1]) rfl ⟨rfl,((b2.setCell (p:=⟨w.heap.size,0,none⟩) (Nat.le_refl _) _).setCell (p:=⟨w.heap.size,1,none⟩) (Nat.le_refl _) _).drew⟩

def aB (n:Nat):Nat:=(M.dig 2 n).length

theorem dD (n:Nat):n<2^aB n:=M.j5 (by omega) n

theorem eF (n:Nat)(h:0<n):2^(aB n-1)<=n:=M.oZ (by omega) n h

theorem fJ:aB 0=0:=by simp[aB,M.aH]

theorem dJ (n:Nat)(h:0<n):0<aB n:=by
 unfold aB;rw[M.aV (by omega) h];simp

theorem uR (n:Nat)(h:0<n):aB n=1+aB (n/2):=by
 unfold aB;rw[M.aV (by omega) h];simp;omega

theorem iT (n k:Nat)(h1:2^(k-1)<=n)(h2:n<2^k)(hk:0<k):aB n=k:=by
 have hn:0<n:=Nat.lt_of_lt_of_le (Nat.pow_pos (by omega)) h1;have h3:=dD n;have h4:=eF n hn;have h5:=dJ n hn;rcases Nat.lt_trichotomy (aB n) k with h|h|h
 . have:2^aB n<=2^(k-1):=Nat.pow_le_pow_right (by omega) (by omega);omega
 . exact h
 . have:2^k<=2^(aB n-1):=Nat.pow_le_pow_right (by omega) (by omega);omega

theorem D3:∀(k n:Nat),n<2^k->k<=64->Lib.bitLen n=aB n:=by
 intro k
 induction k with
 |zero=>
  intro n h _;have:n=0:=by simpa using h
  subst this;rw[fJ];rfl
 |succ k ih=>
  intro n h hk
  by_cases hn:n=0
  . subst hn;rw[fJ];rfl
  . rw[uR n (by omega),Lib.bitLen_half n hn (Nat.lt_of_lt_of_le h (Nat.pow_le_pow_right (by omega) hk)),ih (n/2) (by rw[Nat.pow_succ]at h;omega) (by omega)]

theorem GB (n:Nat)(h:n<18446744073709551616):Lib.bitLen n=aB n:=D3 64 n h (by omega)

theorem qY (k n:Nat)(h:2^k<=n):aB n=k+aB (n/2^k):=by
 have hq:0<n/2^k:=Nat.div_pos h (Nat.pow_pos (by omega));have h1:=dD (n/2^k);have h2:=eF (n/2^k) hq;have h3:=dJ _ hq;refine iT n _ ?_ ?_ (by omega)
 . rw[show k+aB (n/2^k)-1=(aB (n/2^k)-1)+k by omega,Nat.pow_add];exact Nat.le_trans (Nat.mul_le_mul_right _ h2) (Nat.div_mul_le_self n _)
 . rw[Nat.pow_add]
   exact(Nat.div_lt_iff_lt_mul (Nat.pow_pos (by omega))).1 h1|>fun h=>by rwa[Nat.mul_comm]at h

theorem bX (n k:Nat)(h:n<2^k):aB n<=k:=M.len_of_lt (by omega) n k h

theorem OQ (a:Nat)(h:0<a):aB a=32*((D a).length-1)+aB ((D a).getD ((D a).length-1) 0):=by
 have h1:=M.oZ (B:=4294967296) (by omega) a h;have h2:=M.j5 (B:=4294967296) (by omega) a;have hl:(D a).length≠0:=by unfold D;rw[M.aV (by omega) h];simp
 obtain⟨m,hm⟩:∃m,(D a).length=m+1:=⟨(D a).length-1,by omega⟩;have hm':(M.dig 4294967296 a).length=m+1:=hm;rw[hm']at h1 h2;rw[hm,Nat.add_sub_cancel]at*;have e:(4294967296:Nat)^m=2^(32*m):=by rw[show(4294967296:Nat)=2^32 from rfl,<-Nat.pow_mul]
 have hg:(D a).getD m 0=a/4294967296^m:=by
  have hh:(M.dig 4294967296 a).getD m 0=a/4294967296^m%4294967296:=by
   have:∀k n,(M.dig 4294967296 n).getD k 0=n/4294967296^k%4294967296:=by
    intro k
    induction k with
    |zero=>
     intro n
     by_cases hn:0<n
     . rw[M.aV (by omega) hn];simp
     . have:n=0:=by omega
       subst this;simp[M.aH]
    |succ k ih=>
     intro n
     by_cases hn:0<n
     . rw[M.aV (by omega) hn,List.getD_cons_succ,ih,Nat.div_div_eq_div_mul,Nat.pow_succ,Nat.mul_comm 4294967296]
     . have:n=0:=by omega
       subst this;simp[M.aH]
   exact this m a
  unfold D;rw[hh]
  apply Nat.mod_eq_of_lt
  apply Nat.div_lt_of_lt_mul
  rw[<-Nat.pow_succ];exact h2
 rw[hg,e];exact qY (32*m) a (by rw[<-e];exact h1)

end Go.Proofs.YtfdgkleoaehjaaaGreatDoor
