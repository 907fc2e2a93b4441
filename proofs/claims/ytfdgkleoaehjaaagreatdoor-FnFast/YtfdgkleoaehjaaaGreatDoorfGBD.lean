import Derived.Deep.LoopGhost
import Derived.Lib.SlBytesConst
import Derived.Test.YtfdgkleoaehjaaaGreatDoorfGBC
set_option maxHeartbeats 2000000
set_option maxRecDepth 100000
namespace Go.Proofs.YtfdgkleoaehjaaaGreatDoor
open Go.RowKit
set_option linter.unusedVariables false
set_option maxRecDepth 100000

theorem JC (xs:List Nat)(k:Nat)(h:k<xs.length):X (xs.drop k)=xs.getD k 0+4294967296*X (xs.drop (k+1)):=by
 rw[List.drop_eq_getElem_cons h]
 simp[X,M.val,List.getD_eq_getElem?_getD,List.getElem?_eq_getElem h]

theorem zQ {T' T r x q r' d:Nat}{B:Nat}(h:T'*d+r=T)(hq:q*d+r'=r*B+x):(q+B*T')*d+r'=x+B*T:=by
 rw[<-h,Nat.add_mul,Nat.mul_add,Nat.mul_assoc,Nat.mul_comm B r];omega

theorem yJ (ao:Option Addr)(n cap d a:Nat)(w:World)(hl:(D a).length=n)(hn:n<=4194304)(hd:0<d)(hdb:d<=4294967296)(hr:Rd w ao (D a)):
 Calls Tryz.prog 143 #[.slice ao n cap,.int .u64 (d:Int)] w fun e w'=>∃qa qc,e=.returned (.tuple #[.slice qa (D (a/d)).length qc,.int .u64 ((a%d:Nat):Int)])/\w'.ownsRow w.heap.size 25 1 (.slice qa (D (a/d)).length qc) (D (a/d)).length (U (D (a/d)))/\Below w.heap.size w w':=by
 obtain⟨i0,hi,hz0,hz1,hz2⟩:=info_parts Tryz.infoU
 have hmk:=fun(wx:World)=>run_make (P:=Tryz.prog) wx 56 25 i0 (.int .u64 0) Tryz.underlying56 hi hz0 .i64 .i64 (n:Int) (n:Int) (by omega) (Int.le_refl _) (by rw[hz2];omega) (by omega)
 have et:((n:Int)).toNat=n:=by omega
 rw[et]at hmk;go_enter Tryz.func143,Tryz.ntmps143
 go_wp2
 go_loopw [7,8] (fun rs i wr=>∃(k:Nat)(cur:List Nat)(r:Nat),k<=n/\i=.int .i64 ((k:Int)-1)/\rs=.int .u64 (r:Int)/\r<d/\Blk wr w.heap.size cur/\cur.length=n/\(∀x∈cur,x<4294967296)/\Below w.heap.size w wr/\X (cur.drop k)*d+r=X ((D a).drop k)) (fun _ i _=>(intOf i+1).toNat)
 case atStart=>
  refine⟨n,List.replicate n 0,0,Nat.le_refl _,by go_num,rfl,hd,fL _ _,by simp,?_,(Below.refl _ _).alloc (Nat.le_refl _) _,?_⟩
  . intro x hx;rw[List.eq_of_mem_replicate hx];omega
  . rw[List.drop_of_length_le (by simp),List.drop_of_length_le (by omega)];simp[X,M.val]
 case round=>
  obtain⟨k,cur,r,hk,rfl,rfl,hrd,hB,hcl,hcf,hbl,hv⟩:=hrel;have HV:=hid hv;clear hv
  by_cases hlt:0<k
  . obtain⟨k,rfl⟩:∃k',k=k'+1:=⟨k-1,by omega⟩;have e1:(((k+1:Nat):Int)-1)=(k:Int):=by omega
    rw[e1];obtain⟨b2,o2,hao,hc2⟩:=hr (by omega);subst hao;have hca:=(hbl.cell (p:=⟨b2,o2+k,none⟩) (World.block_lt_of_cell? w _ (hc2 k (by omega)))).trans (hc2 k (by omega));clear hc2;have hcs:=hB.cell k (by omega);have hfs:=hB.frozen k;have hx1:(D a).getD k 0<4294967296:=(iD a).get k;have hxs:=JC (D a) k (by omega);obtain⟨x,hxx⟩:∃x:Nat,x=(D a).getD k 0:=⟨_,rfl⟩;rw[<-hxx]at hca hx1 hxs;obtain⟨o,hoo⟩:∃o:Nat,o=cur.getD k 0:=⟨_,rfl⟩;rw[<-hoo]at hcs;clear hxx hoo;have hge:(0:Int)<=(k:Int):=by omega
    have hlt2:(k:Int)<(n:Int):=by omega
    obtain⟨s,hs⟩:∃s,s=x+r*4294967296:=⟨_,rfl⟩
    have hsb:s<d*4294967296:=by
     have:(r+1)*4294967296<=d*4294967296:=Nat.mul_le_mul_right _ hrd;omega
    have hs64:s<18446744073709551616:=by omega
    have hor:bits BinOp.or IntKind.u64 ((r:Int)*4294967296) (x:Int)=(s:Int):=by
     have h1:=vX x r hx1 (by omega)
     have h2:bits BinOp.or IntKind.u64 ((r:Int)*4294967296) (x:Int)=bits BinOp.or IntKind.u64 (x:Int) ((r:Int)*4294967296):=by
      simp only[bits];rw[BitVec.or_comm]
     rw[h2,h1,hs]
    have hsh:IntKind.u64.wrap ((r:Int)*4294967296)=(r:Int)*4294967296:=by rw[IntKind.wrap_u64];omega
    obtain⟨Q,hQ⟩:∃Q,Q=s/d:=⟨_,rfl⟩;obtain⟨R,hR⟩:∃R,R=s%d:=⟨_,rfl⟩;have hRd:R<d:=by rw[hR];exact Nat.mod_lt _ hd
    have hsum:Q*d+R=r*4294967296+x:=by rw[hQ,hR,Nat.mul_comm,Nat.div_add_mod,hs];omega
    have hQb:Q<4294967296:=by rw[hQ,Nat.div_lt_iff_lt_mul hd,Nat.mul_comm];exact hsb
    have hq':(s:Int).tdiv (d:Int)=(Q:Int):=by rw[hQ];rfl
    have hr':(s:Int).tmod (d:Int)=(R:Int):=by rw[hR];rfl
    have hd0:((d:Int)==0)=false:=by simp;omega
    have hd1:¬(d:Int)=0:=by omega
    have HS:=hid hs;have HQ:=hid hQ;have HR:=hid hR;have HSM:=hid hsum;have HB:=hid hB;have HBL:=hid hbl;have HXS:=hid hxs;clear hs hQ hR hsum hB hbl hxs;go_wp2_with fail;go_roundw
    case rel=>
     refine⟨k,cur.set k Q,R,by omega,rfl,rfl,hRd,HB.out.set k Q _ rfl,by simp[hcl],?_,HBL.out.setCell (p:=⟨w.heap.size,k,none⟩) (Nat.le_refl _) _,?_⟩
     . intro y hy;rcases List.mem_or_eq_of_mem_set hy with h|h
       . exact hcf y h
       . omega
     . rw[JC _ k (by simp;omega),M.bQ _ _ _ (by omega),List.drop_set_of_lt (by omega),HXS.out];exact zQ HV.out HSM.out
    case measure=>simp[intOf]
  . have hk0:k=0:=by omega
    subst hk0;have hv:=HV.out;rw[List.drop_zero,List.drop_zero,X_D]at hv
    have hq:X cur=a/d:=by
     rw[<-hv,Nat.mul_comm,Nat.mul_add_div hd,Nat.div_eq_of_lt hrd,Nat.add_zero]
    have hm:a%d=r:=by rw[<-hv,Nat.mul_comm,Nat.mul_add_mod,Nat.mod_eq_of_lt hrd]
    have kT:=bZ 4294967296 (by omega) (some ⟨w.heap.size,0,none⟩) n n cur wr hcl (Nat.le_refl _) (by omega) hcf hB.rd0;have HB:=hid hB;have HBL:=hid hbl;have HM:=hid hm;have HQ:=hid hq;clear hB hbl hm hq hv;go_wp2_with fail;refine kT.mono ?_;rintro e w2 ⟨qa,qc,rfl,ho,hb⟩;have e1:M.dig 4294967296 (M.val 4294967296 cur)=D (a/d):=by show D (X cur)=_;rw[HQ.out]
    rw[e1]at ho|-;go_wp2_with fail
    go_ret2
    rw[HM.out];exact⟨qa,qc,rfl,aM ho HBL.out.size,HBL.out.trans (hb.mono HBL.out.size)⟩

theorem pM (v:Nat):(D v).length=0↔v=0:=by
 constructor
 . intro h;have:=mZ v 0 (by omega);omega
 . rintro rfl;have:=M.len_of_lt (B:=4294967296) (by omega) 0 0 (by omega);have e:(D 0).length<=0:=this;omega

theorem gH (u t:Nat)(h:t<=9):u/10^t=u/1000000000*10^(9-t)+u%1000000000/10^t:=by
 have e:(1000000000:Nat)=10^t*10^(9-t):=by rw[<-Nat.pow_add,show t+(9-t)=9 by omega]
 have h1:10^t*(10^(9-t)*(u/1000000000))+u%1000000000=u:=by
  rw[<-Nat.mul_assoc,<-e];exact Nat.div_add_mod u 1000000000
 have h2:u/10^t=(10^t*(10^(9-t)*(u/1000000000))+u%1000000000)/10^t:=by rw[h1]
 rw[h2,Nat.mul_add_div (Nat.pow_pos (by omega)),Nat.mul_comm (10^(9-t))]

theorem C7 {W:World}{b1 b2 e1 e2 k1 k2:Nat}{v1 v2:Value}{xs ys:List Value}(h1:W.ownsRow b1 e1 1 v1 k1 xs)(h2:W.ownsRow b2 e2 1 v2 k2 ys)(hne:e1≠e2):v1.ownBlock=none\/v1.ownBlock≠v2.ownBlock:=by
 rcases h1.2 with⟨rfl,_⟩|⟨g,cap,cur,rfl,_,hg,_⟩
 . exact .inl rfl
 . rcases h2.2 with⟨rfl,_⟩|⟨g2,cap2,cur2,rfl,_,hg2,_⟩
   . exact .inr (by simp[Value.ownBlock])
   . refine .inr ?_;intro e;simp only[Value.ownBlock,Option.some.injEq]at e;subst e;have:=hg.symm.trans hg2
     simp at this
     exact hne this.2

theorem tH (a n:Nat)(h:(D a).length<=n):(M.tl a).length<=10*n:=by
 refine M.AQ _ _ ?_;have h1:=mZ a n h;have h2:(4294967296:Nat)^n<=10^(10*n):=by rw[Nat.pow_mul];exact Nat.pow_le_pow_left (by decide) _
 omega

theorem GN (a d n:Nat)(h:(D a).length<=n):(D (a/d)).length<=n:=
 M.len_of_lt (B:=4294967296) (by omega) _ _ (Nat.lt_of_le_of_lt (Nat.div_le_self _ _) (mZ a n h))

theorem fS (ao:Option Addr)(n cap v:Nat)(w:World)(hl:(D v).length=n)(hn:n<=100000)(hr:Rd w ao (D v)):
 Calls Tryz.prog 120 #[.slice ao n cap] w fun e w'=>RetR w w' e (M.txt v)/\(v≠0->RetY w w' e (M.txt v)):=by
 obtain⟨i0,hi,hz0,hz1,hz2⟩:=info_parts Tryz.infoY
 by_cases hv:v=0
 . subst hv;have hn0:n=0:=by rw[<-hl];exact(pM 0).2 rfl
   subst hn0
   have hcv:=fun(W:World)=>Go.Lib.run_convert_bytes_const (P:=Tryz.prog) W 22 5 #[.int .u8 48] 1 1 Tryz.underlying22 Tryz.underlying5
   go_enter Tryz.func120,Tryz.ntmps120;go_wp2_with fail;go_ret
   refine⟨⟨some ⟨w.heap.size,0,none⟩,1,rfl,?_,by decide,(Below.refl _ _).alloc (Nat.le_refl _) _⟩,fun h=>absurd rfl h⟩
   intro _
   refine⟨w.heap.size,0,rfl,fun i hi=>?_⟩
   have hi0:i=0:=by have:(M.txt 0).length=1:=rfl;omega
   subst hi0;have hh:(w.alloc (Obj.cells #[Value.int IntKind.u8 48] 5 (1,2))).heap[w.heap.size]? =some (Obj.cells #[Value.int IntKind.u8 48] 5 (1,2)):=heap_alloc_new w _
   show World.cell? _ _=_
   unfold World.cell?;rw[Nat.zero_add];simp only[hh]
   rfl
 . have hn0:¬n=0:=by rw[<-hl];intro e;exact hv ((pM v).1 e)
   have hn0':((n:Int)==0)=false:=by simp;omega
   have HV:=hid hv;clear hv;go_enter Tryz.func120,Tryz.ntmps120;go_wp2_with fail
   go_loopg [0,3] v (fun u av bk wr=>∃(m c1 k c2:Nat)(aa bb:Option Addr)(bs:List Nat),av=.slice aa m c1/\(D u).length=m/\m<=n/\Rd wr aa (D u)/\bk=.slice bb k c2/\wr.ownsRow w.heap.size 5 1 (.slice bb k c2) k (UB bs)/\M.tl v=bs++M.tl u/\Below w.heap.size w wr)
   case atStart=>exact⟨n,cap,0,0,ao,none,[],rfl,hl,Nat.le_refl _,hr,rfl,World.ownsRow_nil _ _ _ _,rfl,Below.refl _ _⟩
   case round=>
    obtain⟨m,c1,k,c2,aa,bb,bs,rfl,hlm,hmn,hrd,rfl,hown,htl,hbl⟩:=hrel;obtain⟨u,hgk⟩:∃u,u=gk:=⟨_,rfl⟩;subst hgk
    by_cases hu:u=0
    . have hm0:m=0:=by rw[<-hlm,hu];exact(pM 0).2 rfl
      subst hm0;have hbs:M.tl v=bs:=by rw[htl,hu,M.nK,List.append_nil]
      have hkl:bs.length=k:=gE hown;have hkb:k<=1000000:=by rw[<-hkl,<-hbs];have:=tH v n (by omega);omega
      have hrb:=RdY.own hown;have hk0:0<bs.length:=by rw[<-hbs,M.nB HV.out];simp
      obtain⟨b2,o2,rfl,hcc⟩:=hrb hk0;have HBS:=hid hbs;have HBL:=hid hbl;clear hown htl hbl hbs hrd hu;go_wp2_with fail
      go_loopw [7,8] (fun ov i wx=>∃(t oc:Nat)(oa:Option Addr),t<=k/\i=.int .i64 ((k:Int)-1-t)/\ov=.slice oa t oc/\wx.ownsRow wr.heap.size 5 1 (.slice oa t oc) t (UB (bs.reverse.take t))/\Below wr.heap.size wr wx) (fun _ i _=>(intOf i+1).toNat)
      case atStart=>exact⟨0,0,none,by omega,by go_num,rfl,by rw[List.take_zero];exact World.ownsRow_nil _ _ _ _,Below.refl _ _⟩
      case round=>
       rename World=>wx
       obtain⟨t,oc,oa,ht,rfl,rfl,own3,b3⟩:=hrel
       by_cases hlt:t<k
       . obtain⟨j,hj⟩:∃j,j+1+t=k:=⟨k-1-t,by omega⟩;have e1:(k:Int)-1-t=(j:Int):=by omega
         rw[e1];have hcj:=(b3.cell (p:=⟨b2,o2+j,none⟩) (World.block_lt_of_cell? wr _ (hcc j (by omega)))).trans (hcc j (by omega));have hge:(0:Int)<=(j:Int):=by omega
         have hjk:(j:Int)<(k:Int):=by omega
         have hst:=M.JW bs t (by omega);rw[show bs.length-1-t=j by omega]at hst;obtain⟨x,hx⟩:∃x,x=bs.getD j 0:=⟨_,rfl⟩;rw[<-hx]at hcj hst;have HST:=hid hst;have OWN3:=hid own3;have B3:=hid b3;clear hx hst own3 b3
         go_wp2_with (at_builtin;refine wpList_append_own _ rfl _ _ 22 rfl wr.heap.size 5 i0 (.int .u8 0) 1 1 Tryz.underlying22 hi hz0 hz1 hz2 rfl (by decide) _ _ _ rfl (OWN3.out.alloc _) ⟨wx.heap.size,0,none⟩ 1 1 (UB [x]) rfl rfl ?c1 ?c2 ?c3 ?c4 ?c5 ?_)
         case c1=>
          intro j u hj
          match j,hj with
          |0,hj=>simp[UB]at hj;subst hj;simp[Addr.add]
         case c2=>exact iB _
         case c3=>unfold maxLen;omega
         case c4=>omega
         case c5=>have:=B3.out.size;simp;omega
         intro v' w3 hown' hgrow _;obtain⟨oa3,cap',rfl⟩:=cV hown';go_wp2_with fail;go_roundw
         case rel=>
          refine⟨t+1,cap',oa3,by omega,by congr 1;omega,rfl,by rw[HST.out,cN];exact hown',?_⟩
          exact(B3.out.alloc B3.out.size _).grown hgrow (by have:=B3.out.size;simp;omega) (fun j e=>bU OWN3.out e)
         case measure=>simp[intOf]
       . have e:t=k:=by omega
         subst e;have hge:¬(0:Int)<=(t:Int)-1-t:=by omega
         have OWN3:=hid own3;have B3:=hid b3;clear own3 b3;go_wp2_with fail;go_ret;have etx:M.txt v=bs.reverse:=by unfold M.txt;rw[if_neg HV.out,HBS.out]
         have hy:RetY w wx (.returned (.slice oa t oc)) (M.txt v):=by
          have h1:=OWN3.out;rw[List.take_of_length_le (by simp;omega)]at h1;have eln:(M.txt v).length=t:=by rw[etx];simp[hkl]
          unfold RetY;rw[eln,etx];exact⟨oa,oc,rfl,gW h1 HBL.out.size,HBL.out.trans (B3.out.mono HBL.out.size)⟩
         exact⟨hy.toR,fun _=>hy⟩
    . have hm0:(0:Int)<(m:Int):=by
       have:m≠0:=by rw[<-hlm];intro e;exact hu ((pM u).1 e)
       omega
      have HOWN:=hid hown;have HTL:=hid htl;have HBL:=hid hbl;clear hown htl hbl;have kS:=yJ aa m c1 1000000000 u wr hlm (by omega) (by omega) (by omega) hrd;go_wp2_with fail;refine kS.mono ?_;rintro e w1 ⟨qa,qc,rfl,hq1,hb1⟩;have hqn:=GN u 1000000000 m (by omega);have own1:=jJ HOWN.out hb1;have b1:=HBL.out.trans (hb1.mono HBL.out.size);have BB:=hid HBL.out.size;clear hb1 HOWN HBL;obtain⟨q,hq⟩:∃q,q=u/1000000000:=⟨_,rfl⟩;obtain⟨r0,hr0⟩:∃r0,r0=u%1000000000:=⟨_,rfl⟩;rw[<-hq]at hq1 hqn|-;rw[<-hr0];obtain⟨m2,hm2⟩:∃m2,m2=(D q).length:=⟨_,rfl⟩;rw[<-hm2]at hq1 hqn|-;have HQ:=hid hq;have HR0:=hid hr0;have HM2:=hid hm2;have OWN1:=hid own1;have HQ1:=hid hq1;have B1:=hid b1;clear hq hr0 hm2 own1 hq1 b1;go_wp2_with fail
      go_loopw [3,5,6] (fun bk rs j wi=>∃(t k2 c3:Nat)(bb2:Option Addr)(bs2:List Nat),t<=9/\j=.int .i64 (t:Int)/\rs=.int .u64 ((r0/10^t:Nat):Int)/\bk=.slice bb2 k2 c3/\wi.ownsRow w.heap.size 5 1 (.slice bb2 k2 c3) k2 (UB bs2)/\M.tl v=bs2++M.tl (u/10^t)/\wi.ownsRow w.heap.size 25 1 (.slice qa m2 qc) m2 (U (D q))/\Below w.heap.size w wi) (fun _ _ j _=>9-(intOf j).toNat)
      case atStart=>exact⟨0,k,c2,bb,bs,by omega,rfl,by simp,rfl,OWN1.out,by rw[Nat.pow_zero,Nat.div_one];exact HTL.out,aM HQ1.out BB.out,B1.out⟩
      case round=>
       rename World=>wi
       obtain⟨t,k2,c3,bb2,bs2,ht,rfl,rfl,rfl,own2,htl2,hq2,b2⟩:=hrel
       by_cases ht9:t<9
       . have hlt':(t:Int)<9:=by omega
         by_cases hq0:0<m2
         . have hc2':(0:Int)<(m2:Int):=by omega
           have hqp:0<q:=by
            rcases Nat.eq_zero_or_pos q with e|e
            . have h1:=HM2.out;rw[e]at h1;rw[(pM 0).2 rfl]at h1;omega
            . exact e
           have hk1:bs2.length<=1000000:=by have h1:=congrArg List.length htl2;rw[List.length_append]at h1;have h2:=tH v n (by omega);omega
           have hk2:bs2.length=k2:=gE own2
           have hut:u/10^t≠0:=by
            rw[gH u t ht,<-HQ.out,<-HR0.out];generalize r0/10^t=z at*;have h2:0<q*10^(9-t):=Nat.mul_pos hqp (Nat.pow_pos (by omega));omega
           have htl3:=M.nB hut
           have hdg:u/10^t%10=r0/10^t%10:=by
            rw[gH u t ht,<-HQ.out,<-HR0.out,show 9-t=(8-t)+1 by omega,Nat.pow_succ,<-Nat.mul_assoc,Nat.add_comm,Nat.add_mul_mod_self_right]
           obtain⟨x,hx⟩:∃x,x=r0/10^t:=⟨_,rfl⟩;have hxl:x<1000000000:=by rw[hx];exact Nat.lt_of_le_of_lt (Nat.div_le_self _ _) (by rw[HR0.out];exact Nat.mod_lt _ (by omega))
           rw[<-hx]at hdg|-;obtain⟨c,hcv⟩:∃c,c=48+x%10:=⟨_,rfl⟩;have hcb:c<=57:=by omega
           have s1:(x:Int).tmod 10=((x%10:Nat):Int):=by rw[Int.tmod_eq_emod_of_nonneg (by omega)];omega
           have s2:IntKind.u64.wrap (48+(x:Int)%10)=(c:Int):=by rw[IntKind.wrap_u64];omega
           have s3:(c:Int)%256=(c:Int):=by omega
           have s4:(x:Int).tdiv 10=((x/10:Nat):Int):=by rw[Int.tdiv_eq_ediv_of_nonneg (by omega)];omega
           have HX:=hid hx;have HC:=hid hcv;have HD:=hid hdg;have OWN2:=hid own2;have HTL2:=hid htl2;have HTL3:=hid htl3;have HQ2:=hid hq2;have B2:=hid b2;clear hx hcv hdg own2 htl2 htl3 hq2 b2
           have hnew:∀j u,(UB [c])[j]? =some u->(wi.alloc (.cells #[.int .u8 (c:Int)] 5)).cell? ((⟨wi.heap.size,0,none⟩:Addr).add j)=some u:=by
            intro j u hj
            match j,hj with
            |0,hj=>simp[UB]at hj;subst hj;simp[Addr.add]
           go_wp2_with (at_builtin;refine wpList_append_own _ rfl _ _ 22 rfl w.heap.size 5 i0 (.int .u8 0) 1 1 Tryz.underlying22 hi hz0 hz1 hz2 rfl (by decide) _ _ _ rfl (OWN2.out.alloc _) ⟨wi.heap.size,0,none⟩ 1 1 (UB [c]) rfl rfl ?c1 ?c2 ?c3 ?c4 ?c5 ?_)
           case c1=>first|exact hnew|(intro j u hj;simpa[UB]using hj)
           case c2=>exact iB _
           case c3=>unfold maxLen;omega
           case c4=>omega
           case c5=>have:=B2.out.size;simp;omega
           intro v' w3 hown' hgrow _;obtain⟨oa3,cap',rfl⟩:=cV hown';go_wp2_with fail;go_roundw
           case rel=>
            refine⟨t+1,k2+1,cap',oa3,bs2++[c],by omega,by go_num,?_,rfl,by rw[cN];exact hown',?_,?_,?_⟩
            . rw[Nat.pow_succ,<-Nat.div_div_eq_div_mul,<-HX.out];congr 1
            . rw[HTL2.out,HTL3.out,HD.out,<-HC.out,Nat.pow_succ,<-Nat.div_div_eq_div_mul,List.append_assoc];rfl
            . exact(HQ2.out.alloc _).kept hgrow (C7 HQ2.out OWN2.out (by decide))
            . exact(B2.out.alloc B2.out.size _).grown hgrow (by have:=B2.out.size;simp;omega) (fun j e=>bU OWN2.out e)
           case measure=>simp[intOf];omega
         . have hq1:q=0:=(pM q).1 (by rw[<-HM2.out];omega);have hq3:¬(0:Int)<(m2:Int):=by omega
           by_cases hr1:0<r0/10^t
           . have hc2':0<r0/10^t:=hr1;have hc4:(0:Int)<((r0/10^t:Nat):Int):=by omega
             have hk1:bs2.length<=1000000:=by have h1:=congrArg List.length htl2;rw[List.length_append]at h1;have h2:=tH v n (by omega);omega
             have hk2:bs2.length=k2:=gE own2
             have hut:u/10^t≠0:=by
              rw[gH u t ht,<-HQ.out,<-HR0.out];generalize r0/10^t=z at*;omega
             have htl3:=M.nB hut
             have hdg:u/10^t%10=r0/10^t%10:=by
              rw[gH u t ht,<-HQ.out,<-HR0.out,show 9-t=(8-t)+1 by omega,Nat.pow_succ,<-Nat.mul_assoc,Nat.add_comm,Nat.add_mul_mod_self_right]
             obtain⟨x,hx⟩:∃x,x=r0/10^t:=⟨_,rfl⟩;have hxl:x<1000000000:=by rw[hx];exact Nat.lt_of_le_of_lt (Nat.div_le_self _ _) (by rw[HR0.out];exact Nat.mod_lt _ (by omega))
             rw[<-hx]at hdg hc2' hc4 hr1|-;obtain⟨c,hcv⟩:∃c,c=48+x%10:=⟨_,rfl⟩;have hcb:c<=57:=by omega
             have s1:(x:Int).tmod 10=((x%10:Nat):Int):=by rw[Int.tmod_eq_emod_of_nonneg (by omega)];omega
             have s2:IntKind.u64.wrap (48+(x:Int)%10)=(c:Int):=by rw[IntKind.wrap_u64];omega
             have s3:(c:Int)%256=(c:Int):=by omega
             have s4:(x:Int).tdiv 10=((x/10:Nat):Int):=by rw[Int.tdiv_eq_ediv_of_nonneg (by omega)];omega
             have HX:=hid hx;have HC:=hid hcv;have HD:=hid hdg;have OWN2:=hid own2;have HTL2:=hid htl2;have HTL3:=hid htl3;have HQ2:=hid hq2;have B2:=hid b2;clear hx hcv hdg own2 htl2 htl3 hq2 b2
             have hnew:∀j u,(UB [c])[j]? =some u->(wi.alloc (.cells #[.int .u8 (c:Int)] 5)).cell? ((⟨wi.heap.size,0,none⟩:Addr).add j)=some u:=by
              intro j u hj
              match j,hj with
              |0,hj=>simp[UB]at hj;subst hj;simp[Addr.add]
             go_wp2_with (at_builtin;refine wpList_append_own _ rfl _ _ 22 rfl w.heap.size 5 i0 (.int .u8 0) 1 1 Tryz.underlying22 hi hz0 hz1 hz2 rfl (by decide) _ _ _ rfl (OWN2.out.alloc _) ⟨wi.heap.size,0,none⟩ 1 1 (UB [c]) rfl rfl ?c1 ?c2 ?c3 ?c4 ?c5 ?_)
             case c1=>first|exact hnew|(intro j u hj;simpa[UB]using hj)
             case c2=>exact iB _
             case c3=>unfold maxLen;omega
             case c4=>omega
             case c5=>have:=B2.out.size;simp;omega
             intro v' w3 hown' hgrow _;obtain⟨oa3,cap',rfl⟩:=cV hown';go_wp2_with fail;go_roundw
             case rel=>
              refine⟨t+1,k2+1,cap',oa3,bs2++[c],by omega,by go_num,?_,rfl,by rw[cN];exact hown',?_,?_,?_⟩
              . rw[Nat.pow_succ,<-Nat.div_div_eq_div_mul,<-HX.out];congr 1
              . rw[HTL2.out,HTL3.out,HD.out,<-HC.out,Nat.pow_succ,<-Nat.div_div_eq_div_mul,List.append_assoc];rfl
              . exact(HQ2.out.alloc _).kept hgrow (C7 HQ2.out OWN2.out (by decide))
              . exact(B2.out.alloc B2.out.size _).grown hgrow (by have:=B2.out.size;simp;omega) (fun j e=>bU OWN2.out e)
             case measure=>simp[intOf];omega
           . have hz:r0/10^t=0:=Nat.eq_zero_of_not_pos hr1;rw[hz]
             have htlq:M.tl v=bs2++M.tl q:=by
              rw[htl2,gH u t ht,<-HQ.out,<-HR0.out,hz,hq1]
              simp
             have HU:=hid htlq;have OWN2:=hid own2;have HQ2:=hid hq2;have B2:=hid b2;clear htlq own2 hq2 b2 htl2;go_wp2_with fail
             go_roundg q
             case measure=>rw[HQ.out];omega
             case rel=>exact⟨m2,qc,k2,c3,qa,bb2,bs2,rfl,HM2.out.symm,by omega,Rd.own HQ2.out,rfl,OWN2.out,HU.out,B2.out⟩
       . have hlt':¬(t:Int)<9:=by omega
         have e9:t=9:=by omega
         subst e9;have htlq:M.tl v=bs2++M.tl q:=by rw[htl2,HQ.out]
         obtain⟨x9,hx9⟩:∃x,x=r0/10^9:=⟨_,rfl⟩;rw[<-hx9];clear hx9;have HU:=hid htlq;have OWN2:=hid own2;have HQ2:=hid hq2;have B2:=hid b2;clear htlq own2 hq2 b2 htl2;go_wp2_with fail
         go_roundg q
         case measure=>rw[HQ.out];omega
         case rel=>exact⟨m2,qc,k2,c3,qa,bb2,bs2,rfl,HM2.out.symm,by omega,Rd.own HQ2.out,rfl,OWN2.out,HU.out,B2.out⟩

theorem pW (z:Int)(hz:-100000000<z/\z<100000000)(w:World):
 Calls Tryz.prog 90 #[.int .i64 z] w fun e w'=>RetR w w' e (M.gQ z):=by
 by_cases h0:z<0
 . obtain⟨u,eu⟩:∃u:Nat,z= -(u:Int):=⟨z.natAbs,by omega⟩;have hei:M.gQ z=45::M.txt u:=by unfold M.gQ;rw[if_pos h0,show z.natAbs=u by omega];rfl
   have hu1:IntKind.i64.wrap (-z)=(u:Int):=by rw[IntKind.wrap_i64];omega
   have hu2:IntKind.u64.wrap (u:Int)=(u:Int):=by rw[IntKind.wrap_u64];omega
   have kc:=Lib.run_convert_bytes_const (P:=Tryz.prog) w 22 5 #[.int .u8 45] 1 1 Tryz.underlying22 Tryz.underlying5;have hl:(D u).length<=6:=dG u (by omega);have b1:Below w.heap.size w (w.alloc (.cells #[.int .u8 45] 5 (1,2))):=(Below.refl _ _).alloc (Nat.le_refl _) _
   have R1:RdB (w.alloc (.cells #[.int .u8 45] 5 (1,2))) (some ⟨w.heap.size,0,none⟩) [45]:=by
    refine⟨fun x hx=>by simp at hx;omega,fun _=>⟨w.heap.size,0,rfl,fun i hi=>?_⟩⟩
    obtain rfl:i=0:=by simp at hi;exact hi
    rw[cell_of_row _ w.heap.size (0+0) _ _ (1,2) (heap_alloc_new w _)]
    rfl
   have HE:=hid hei;have HU:=hid (show 1<=u/\u<100000000 by omega);have HR1:=hid R1;have HB1:=hid b1;clear hei eu R1 b1;go_enter Tryz.func90,Tryz.ntmps90;go_wp2_with fail;refine(aU u _ (by have:=HU.out;omega)).mono ?_;rintro e v1 ⟨la,lc,rfl,lo,hb1⟩;go_wp2_with fail;refine(fS la _ lc u _ rfl (by omega) (Rd.own lo)).mono ?_;rintro e v2 ⟨_,hY⟩;obtain⟨ta,tc,rfl,town,hb2⟩:=hY (by have:=HU.out;omega);have r2:=(HR1.out.below hb1).below hb2;have B2:=(HB1.out.trans (hb1.mono HB1.out.size)).trans (hb2.mono (HB1.out.trans (hb1.mono HB1.out.size)).size);have hp:=M.qT u;have hlt:=M.lY 7 u (by have:=HU.out;omega);obtain⟨g,cap,etx,_,_⟩:=town.form hp;cases etx;have rt:RdB v2 (some ⟨g,0,none⟩) (M.txt u):=(OwnV.of_own town (M.oJ u)).rd;have HB2:=hid B2;have HRT:=hid rt;have HR2:=hid r2;obtain⟨m,em⟩:∃m,m=(M.txt u).length:=⟨_,rfl⟩;rw[<-em]at hp hlt|-;have HEM:=hid em;clear hb1 hb2 lo town rt r2 B2 em hY
   go_wp2_with (at_builtin;refine yT rfl _ _ rfl v2 ⟨w.heap.size,0,none⟩ 1 [45] rfl rfl (by omega) HR2.out ⟨g,0,none⟩ m tc (M.txt u) rfl HEM.out.symm hp HRT.out (by omega) ?_)
   intro ra rc v3 own3 b3;go_wp2_with fail;go_ret;have h3:(M.gQ z).length=1+m:=by rw[HE.out,List.length_cons,<-HEM.out];omega
   have o3:=OwnV.of_own own3 (by rw[<-HE.out];exact M.jX z);have hc:=jE own3;rw[<-HE.out]at o3;rw[<-h3]at o3 hc;exact⟨ra,rc,by rw[h3];rfl,o3.rd.y,hc,HB2.out.trans (b3.mono HB2.out.size)⟩
 . obtain⟨u,rfl⟩:∃u:Nat,z=(u:Int):=⟨z.toNat,by omega⟩;have hei:M.gQ (u:Int)=M.txt u:=by unfold M.gQ;rw[if_neg h0,List.nil_append];rfl
   have hu2:IntKind.u64.wrap (u:Int)=(u:Int):=by rw[IntKind.wrap_u64];omega
   have hl:(D u).length<=6:=dG u (by omega);rw[hei];go_enter Tryz.func90,Tryz.ntmps90;go_wp2_with fail;refine(aU u _ (by omega)).mono ?_;rintro e v1 ⟨la,lc,rfl,lo,hb1⟩;go_wp2_with fail;refine(fS la _ lc u _ rfl (by omega) (Rd.own lo)).mono ?_;rintro e v2 ⟨hR,_⟩;have HR:=hid (hR.later hb1);obtain⟨ra,rc,rfl,_,_,_⟩:=hR;go_wp2_with fail;go_ret;exact HR.out

def TxA (w0:World)(ao:Option Addr)(n c:Nat)(e:Ending)(v:World):Prop:=∃ra m rc,e=.returned (.slice ra m rc)/\m<=99999/\Nt w0 v ao n c ra m rc

theorem MW (a:Option Addr)(n c:Nat)(k:Int)(v:World):Sem.run Tryz.prog (Instr.field 133 (.agg #[.slice a n c,.int .i64 k]) 0) v=.ok (.slice a n c) v:=by kernel_rfl

theorem M.eint_len8 (z:Int)(h:z.natAbs<100000000):(M.gQ z).length<=9:=by
 unfold M.gQ;rw[List.length_append];have:=M.lY 7 z.natAbs (by omega)
 split<;>simp<;>omega

theorem LQ {v:World}{g:Nat}{xs:Array Value}{t:TypeId}(C:Cls v g xs t)(r:Nat)(hr:r<xs.size)(h:∀x∈xs.toList,∃s:ByteArray,x=.string s/\s.size<=100):∃s:ByteArray,v.cell? ⟨g,r,none⟩=some (.string s)/\s.size<=100:=by
 obtain⟨s,e,hs⟩:=h xs[r] (Array.getElem_mem_toList hr);exact⟨s,by rw[cell_of_row v g r _ _ (0,0) C,Array.getElem?_eq_getElem hr,e],hs⟩

theorem JT:∀y∈[Value.string { data:=#[105,110,102] },
 Value.string { data:=#[45,73,110,102,105,110,105,116,121] },
 Value.string { data:=#[43,110,97,110] },Value.string { data:=#[78,97,78] },
 Value.string { data:=#[45,73,78,70] },Value.string { data:=#[48] },
 Value.string { data:=#[45,48,46,48] },Value.string { data:=#[48,101,53] },
 Value.string { data:=#[48,48,46,48,48,101,45,57] },Value.string { data:=#[45,110,97,110] }],∃s:ByteArray,y=.string s/\s.size<=100:=by
 simp only[List.forall_mem_cons,List.not_mem_nil,false_implies,implies_true,and_true];exact⟨⟨_,rfl,by decide⟩,⟨_,rfl,by decide⟩,⟨_,rfl,by decide⟩,⟨_,rfl,by decide⟩,⟨_,rfl,by decide⟩,⟨_,rfl,by decide⟩,⟨_,rfl,by decide⟩,⟨_,rfl,by decide⟩,⟨_,rfl,by decide⟩,⟨_,rfl,by decide⟩⟩

theorem zM (f:Int){w0 v:World}{ao:Option Addr}{n c:Nat}{bs:List Nat}(hl:bs.length=n)(hn:n<=1048576)(hb:RdB w0 ao bs)(h:Rs w0 v ao n c)
 (kW:∀v,Rs w0 v ao n c->Calls Tryz.prog 88 #[.pointer (some ⟨w0.heap.size,0,none⟩),.int .i64 f] v fun e v'=>∃X:Nat,X<2^128/\e=.returned (.agg #[.int .u64 (M.hiN X:Int),.int .u64 (M.loN X:Int)])/\Rs w0 v' ao n c)
 (kP:∀(X:Nat)(v:World),X<2^128->Calls Tryz.prog 87 #[.int .i64 f,.agg #[.int .u64 (M.hiN X:Int),.int .u64 (M.loN X:Int)]] v fun e v'=>PrP v v' e)
 (kM:∀v,Rs w0 v ao n c->Calls Tryz.prog 89 #[.pointer (some ⟨w0.heap.size,0,none⟩),.int .i64 f] v fun e v'=>TxA w0 ao n c e v'):
 Calls Tryz.prog 45 #[.pointer (some ⟨w0.heap.size,0,none⟩),.int .i64 f] v fun e v'=>TxA w0 ao n c e v':=by
 have fp:=MW;go_enter Tryz.func45,Tryz.ntmps45;go_wp2_with fail;refine(cQ hl hn hb h).mono ?_;rintro e v1 ⟨k,hk,rfl,h1,_⟩;clear h;obtain⟨a,ha⟩:∃a:Nat,a=k%10:=⟨_,rfl⟩;have ea:(k:Int)%10=(a:Int):=by omega
 have ha10:a<10:=by omega
 clear ha;go_upto_region 3 with fail
 by_cases a0:a=0
 . subst a0
   as_aux_lemma=>
   go_wp2_with fail;refine(kW _ h1).mono ?_;rintro e v2 ⟨X,hX,rfl,h2⟩;go_wp2_with fail;refine(kP X _ hX).mono ?_;rintro e v3 ⟨ra,m,rc,q,rfl,hm9,T,hb3⟩;have N:Nt w0 v3 ao n c ra m rc:=⟨h2.keep hb3,T.low h2.lt⟩;have HN:=hid N;clear N T hb3 h2;go_wp2_with fail;go_ret;exact⟨ra,m,rc,rfl,hm9,HN.out⟩
 by_cases a1:a=1
 . subst a1
   as_aux_lemma=>
   go_wp2_with fail;refine(kM _ h1).mono ?_;rintro e v2 ⟨ra,m,rc,rfl,hm9,N⟩;have HN:=hid N;clear N;go_wp2_with fail;go_ret;exact⟨ra,m,rc,rfl,hm9,HN.out⟩
 by_cases a2:a=2
 . subst a2
   have kc:=fun(W:World)(s:ByteArray)=>Lib.run_convert_string_bytes (P:=Tryz.prog) W 9 22 5 s Tryz.underlying9 Tryz.underlying22 Tryz.underlying5
   go_wp2_with fail;refine(cQ hl hn hb (h1.alloc _)).mono ?_;rintro e v2 ⟨x,hx,rfl,h2,x2⟩;have C2:=x2.cls (Cls.new v1 _ 9) (by have:=h1.lt;omega);obtain⟨r,hr⟩:∃r:Nat,r=x%10:=⟨_,rfl⟩;have ra:(x:Int)%10=(r:Int):=by omega
   have hr10:r<10:=by omega
   clear hr;obtain⟨s,hs,hz⟩:=LQ C2 r hr10 JT;have hr1:(r:Int)<10:=by omega
   obtain⟨T,hB⟩:=Tw.of_str v2 s (by omega);have N3:Nt w0 (Lib.bytesWorld v2 5 s) ao n c _ _ _:=⟨h2.keep hB,T.low h2.lt⟩;have HN:=hid N3;have HZ:=hid hz;clear C2 x2 h2 hz h1 ea T hB N3;go_wp2_with fail;generalize Lib.bytesWorld v2 5 s=v3 at*;go_ret;exact⟨_,_,_,rfl,by have:=HZ.out;omega,HN.out⟩
 have b0:((a:Int)==0)=false:=by simp[a0]
 have b1:((a:Int)==1)=false:=by simp;omega
 have b2:((a:Int)==2)=false:=by simp;omega
 go_wp2_with fail;refine(cQ hl hn hb h1).mono ?_;rintro e v2 ⟨x,hx,rfl,h2,_⟩;clear h1 kW kP kM b0 b1 b2 fp;obtain⟨r,hr⟩:∃r:Nat,r=x%6:=⟨_,rfl⟩;have ra:(x:Int)%6=(r:Int):=by omega
 clear hr;have N2:=hid (Nt.nil h2);clear h2;go_upto_if 47 with fail
 go_cut[7,8] (fun z _ wx=>∃ra m rc,z=.slice ra m rc/\m<=1/\Nt w0 wx ao n c ra m rc)
 case first=>
  as_aux_lemma=>
  by_cases h6:r<2
  . have h6':(r:Int)<2:=by omega
    go_wp2_with (at_builtin;refine N2.out.one _ _ rfl (UInt8.toNat_lt _) rfl _ _ rfl rfl rfl (by omega) ?_)
    intro g rc v3 N3;go_wp2_with fail;go_meet
    case rel=>exact⟨_,_,_,rfl,by omega,N3⟩
  . have h6':¬(r:Int)<2:=by omega
    go_wp2_with fail;go_meet
    case rel=>exact⟨_,_,_,rfl,by omega,N2.out⟩
 case rest=>
 as_aux_lemma=>
 rename World=>v3
 obtain⟨oa,m,oc,rfl,hm,N3⟩:=hcut;clear N2 ra;go_wp2_with fail;refine(N3.next hl hn hb).mono ?_;rintro e v4 ⟨x4,hx4,rfl,N4⟩;clear N3;obtain⟨r4,hr4⟩:∃r:Nat,r=x4%24:=⟨_,rfl⟩;have ra:(x4:Int)%24=(r4:Int):=by omega
 have r4b:r4<24:=by omega
 have w4:IntKind.i64.wrap ((r4:Int)+1)=((r4+1:Nat):Int):=by rw[IntKind.wrap_i64];omega
 clear hr4;have H4:=hid N4;clear N4;go_upto_if 58 with fail
 go_cut[9] (fun z wx=>∃nn:Nat,z=.int .i64 (nn:Int)/\nn<=60/\Nt w0 wx ao n c oa m oc)
 case first=>
  as_aux_lemma=>
  by_cases h24:240<=k
  . have h24':(240:Int)<=(k:Int):=by omega
    obtain⟨r,hr⟩:∃r:Nat,r=k%5:=⟨_,rfl⟩;have rk:(k:Int)%5=(r:Int):=by omega
    have w5:IntKind.i64.wrap (18+(r:Int))=((18+r:Nat):Int):=by rw[IntKind.wrap_i64];omega
    have r5:r<5:=by omega
    clear hr;go_wp2_with fail;go_meet
    case rel=>exact⟨18+r,rfl,by omega,H4.out⟩
  . have h24':¬(240:Int)<=(k:Int):=by omega
    go_wp2_with fail;go_meet
    case rel=>exact⟨r4+1,rfl,by omega,H4.out⟩
 case rest=>
 as_aux_lemma=>
 rename World=>v5
 obtain⟨nn,rfl,hnn,N5⟩:=hcut;clear H4 w4 ra r4b;have H5:=hid N5;clear N5;go_upto_if 64 with fail
 go_cut[9] (fun z wx=>∃nn:Nat,z=.int .i64 (nn:Int)/\nn<=60/\Nt w0 wx ao n c oa m oc)
 case first=>
  as_aux_lemma=>
  by_cases a3:a=3
  . subst a3;go_wp2_with fail;refine(H5.out.next hl hn hb).mono ?_;rintro e v6 ⟨x6,hx6,rfl,N6⟩;have H6:=hid N6;clear N6;obtain⟨r,hr⟩:∃r:Nat,r=x6%60:=⟨_,rfl⟩;have rk:(x6:Int)%60=(r:Int):=by omega
    have r5:r<60:=by omega
    clear hr;go_wp2_with fail;go_meet
    case rel=>exact⟨r,by rw[rk],by omega,H6.out⟩
  . have b3:((a:Int)==3)=false:=by simp;omega
    have b3':¬(a:Int)=3:=by omega
    go_wp2_with fail;go_meet
    case rel=>exact⟨nn,rfl,hnn,H5.out⟩
 case rest=>
 as_aux_lemma=>
 rename World=>v6
 clear H5 hnn;obtain⟨nn,rfl,hnn,N6⟩:=hcut;have H6:=hid N6;clear N6 ea ha10 a0 a1 a2;go_upto_if 70 with fail
 go_cut[10] (fun z wx=>∃p:Int,z=.int .i64 p/\Nt w0 wx ao n c oa m oc)
 case first=>
  as_aux_lemma=>
  by_cases h3:k%3=0
  . have b3:¬(0:Int)<(k:Int)%3:=by omega
    have b4:(k:Int)%3=0:=by omega
    go_wp2_with fail;go_meet
    case rel=>exact⟨_,rfl,H6.out⟩
  . have b3:(0:Int)<(k:Int)%3:=by omega
    have w6:IntKind.i64.wrap ((nn:Int)+1)=(nn:Int)+1:=by rw[IntKind.wrap_i64];omega
    have z6:¬(nn:Int)+1=0:=by omega
    have y6:((nn:Int)+1==0)=false:=by simp;omega
    go_wp2_with fail;refine(H6.out.next hl hn hb).mono ?_;rintro e v7 ⟨x7,hx7,rfl,N7⟩;have H7:=hid N7;clear N7;go_wp2_with fail;go_meet
    case rel=>exact⟨_,rfl,H7.out⟩
 case rest=>
 as_aux_lemma=>
 rename World=>v7
 clear H6;obtain⟨p,rfl,N7⟩:=hcut;have H7:=hid N7;clear N7;go_wp2_with fail
 go_loopw [7,11] (fun o jv wx=>∃(j mm:Nat)(pa:Option Addr)(pc:Nat),j<=nn/\mm<=1+2*j/\jv=.int .i64 (j:Int)/\o=.slice pa mm pc/\Nt w0 wx ao n c pa mm pc) (fun _ jv _=>nn-(intOf jv).toNat)
 case atStart=>exact⟨0,m,oa,oc,Nat.zero_le _,by omega,rfl,rfl,H7.out⟩
 case round=>
  rename World=>wx
  obtain⟨j,mm,pa,pc,hj,hmm,rfl,rfl,N8⟩:=hrel;have H8:=hid N8;clear N8 H7
  by_cases hlt:j<nn
  . have hlt':(j:Int)<(nn:Int):=by omega
    have hinc:IntKind.i64.wrap ((j:Int)+1)=((j+1:Nat):Int):=by rw[IntKind.wrap_i64];omega
    go_upto_if 83 with fail
    go_cut[7] (fun z wx=>∃(m2:Nat)(qa:Option Addr)(qc:Nat),z=.slice qa m2 qc/\m2<=2+2*j/\Nt w0 wx ao n c qa m2 qc)
    case first=>
     as_aux_lemma=>
     by_cases hp:(j:Int)=p
     . have hp':((j:Int)==p)=true:=by simp[hp]
       clear hp
       go_wp2_with (at_builtin;refine H8.out.one _ 46 rfl (by omega) rfl _ _ rfl rfl rfl (by omega) ?_)
       intro g rc v3 N3;go_wp2_with fail;go_meet
       case rel=>exact⟨_,_,_,rfl,by omega,N3⟩
     . have hp':((j:Int)==p)=false:=by simp[hp]
       clear hp;go_wp2_with fail;go_meet
       case rel=>exact⟨_,_,_,rfl,by omega,H8.out⟩
    case rest=>
    as_aux_lemma=>
    rename World=>v9
    clear H8;obtain⟨m2,qa,qc,rfl,hm2,N9⟩:=hcut;go_wp2_with fail;refine(N9.next hl hn hb).mono ?_;rintro e vA ⟨xA,hxA,rfl,NA⟩;have HA:=hid NA;clear NA N9;go_upto_if 91 with fail
    go_cut[12] (fun z wx=>∃cc:Nat,z=.int .i64 (cc:Int)/\cc<256/\Nt w0 wx ao n c qa m2 qc)
    case first=>
     as_aux_lemma=>
     by_cases h6:xA%7=6
     . have h6':(xA:Int)%7=6:=by omega
       go_wp2_with fail;go_meet
       case rel=>exact⟨0,rfl,by omega,HA.out⟩
     . have h6':((xA:Int)%7==6)=false:=by simp;omega
       go_wp2_with fail;go_meet
       case rel=>exact⟨xA,rfl,hxA,HA.out⟩
    case rest=>
    as_aux_lemma=>
    rename World=>vB
    clear HA;obtain⟨cc,rfl,hcc,NB⟩:=hcut;obtain⟨r,hr⟩:∃r:Nat,r=cc%10:=⟨_,rfl⟩;have rk:(cc:Int)%10=(r:Int):=by omega
    have r5:r<10:=by omega
    clear hr;have w2:IntKind.i64.wrap (48+(r:Int))=48+(r:Int):=by rw[IntKind.wrap_i64];omega
    have w3:IntKind.u8.wrap (48+(r:Int))=((48+r:Nat):Int):=by simp only[IntKind.wrap_u8];omega
    go_wp2_with (at_builtin;refine NB.one _ (48+r) rfl (by omega) rfl _ _ rfl rfl rfl (by omega) ?_)
    intro g rc v3 N3;go_wp2_with fail;go_roundw
    case rel=>exact⟨j+1,m2+1,_,_,by omega,by omega,rfl,rfl,N3⟩
    case measure=>simp[intOf];omega
  . have hlt':¬(j:Int)<(nn:Int):=by omega
    have hm9:mm<=121:=by omega
    by_cases h4:k%4=0
    . have b4:¬(0:Int)<(k:Int)%4:=by omega
      have b5:(k:Int)%4=0:=by omega
      as_aux_lemma=>
      go_wp2_with fail;go_ret;exact⟨_,_,_,rfl,by omega,H8.out⟩
    have b4:(0:Int)<(k:Int)%4:=by omega
    go_upto_region 32 with fail
    go_cut[7] (fun z wx=>∃(m2:Nat)(qa:Option Addr)(qc:Nat),z=.slice qa m2 qc/\m2<=122/\Nt w0 wx ao n c qa m2 qc)
    case first=>
     as_aux_lemma=>
     go_wp2_with fail;refine(H8.out.next hl hn hb).mono ?_;rintro e v9 ⟨x9,hx9,rfl,N9⟩;have i9:(x9:Int)%2<2:=by omega
     go_wp2_with (at_builtin;refine N9.one _ _ rfl (UInt8.toNat_lt _) rfl _ _ rfl rfl rfl (by omega) ?_)
     intro g rc vA NA;go_wp2_with fail;go_meet
     case rel=>exact⟨_,_,_,rfl,by omega,NA⟩
    case rest=>
    as_aux_lemma=>
    rename World=>v9
    clear H8 hmm hm9;obtain⟨m2,qa,qc,rfl,hm2,N9⟩:=hcut;go_wp2_with fail;refine(N9.next hl hn hb).mono ?_;rintro e vA ⟨xA,hxA,rfl,NA⟩;have HA:=hid NA;clear NA N9;go_upto_if 113 with fail
    go_cut[7,13] (fun z _ wx=>∃(m2:Nat)(qa:Option Addr)(qc:Nat),z=.slice qa m2 qc/\m2<=123/\Nt w0 wx ao n c qa m2 qc)
    case first=>
     as_aux_lemma=>
     by_cases h6:xA%3<2
     . have h6':(xA:Int)%3<2:=by omega
       go_wp2_with (at_builtin;refine HA.out.one _ _ rfl (UInt8.toNat_lt _) rfl _ _ rfl rfl rfl (by omega) ?_)
       intro g rc v3 N3;go_wp2_with fail;go_meet
       case rel=>exact⟨_,_,_,rfl,by omega,N3⟩
     . have h6':¬(xA:Int)%3<2:=by omega
       go_wp2_with fail;go_meet
       case rel=>exact⟨_,_,_,rfl,by omega,HA.out⟩
    case rest=>
    as_aux_lemma=>
    rename World=>vB
    clear HA hm2;obtain⟨m3,pa3,pc3,rfl,hm3,NB⟩:=hcut;go_wp2_with fail;refine(NB.next hl hn hb).mono ?_;rintro e vC ⟨xC,hxC,rfl,NC⟩;have HC:=hid NC;clear NC NB;obtain⟨d,hd⟩:∃d:Nat,d=xC%7:=⟨_,rfl⟩;have ed:(xC:Int)%7=(d:Int):=by omega
    obtain⟨r4,hr4⟩:∃d:Nat,d=xC%40:=⟨_,rfl⟩;have e4:(xC:Int)%40=(r4:Int):=by omega
    have hr5:r4<40:=by omega
    clear hd hr4;go_upto_block 3 with fail
    go_cut[15,124] (fun z _ wx=>∃E:Nat,z=.int .i64 (E:Int)/\E<99999999/\Nt w0 wx ao n c pa3 m3 pc3)
    case first=>
     as_aux_lemma=>
     by_cases d1:d=1
     . subst d1;go_wp2_with fail;refine(HC.out.next hl hn hb).mono ?_;rintro e vD ⟨y,hy,rfl,ND⟩;have HD:=hid ND;clear ND;have wy:IntKind.i64.wrap ((y:Int)*2)=((y*2:Nat):Int):=by rw[IntKind.wrap_i64];omega
       go_wp2_with fail;go_meet
       case rel=>exact⟨y*2,rfl,by omega,HD.out⟩
     have g1:((d:Int)==1)=false:=by simp;omega
     by_cases d2:d=2
     . subst d2;go_wp2_with fail;refine(HC.out.next hl hn hb).mono ?_;rintro e vD ⟨y,hy,rfl,ND⟩;have HD:=hid ND;clear ND;have wy:IntKind.i64.wrap (4900+(y:Int))=((4900+y:Nat):Int):=by rw[IntKind.wrap_i64];omega
       go_wp2_with fail;go_meet
       case rel=>exact⟨4900+y,rfl,by omega,HD.out⟩
     have g2:((d:Int)==2)=false:=by simp;omega
     by_cases d3:d=3
     . subst d3;have wy:IntKind.i64.wrap (290+(r4:Int))=((290+r4:Nat):Int):=by rw[IntKind.wrap_i64];omega
       go_wp2_with fail;go_meet
       case rel=>exact⟨290+r4,rfl,by omega,HC.out⟩
     have g3:((d:Int)==3)=false:=by simp;omega
     by_cases d4:d=4
     . subst d4;go_wp2_with fail;refine(HC.out.next hl hn hb).mono ?_;rintro e vD ⟨y,hy,rfl,ND⟩;have HD:=hid ND;clear ND;have wy:IntKind.i64.wrap ((y:Int)*100000)=((y*100000:Nat):Int):=by rw[IntKind.wrap_i64];omega
       go_wp2_with fail;go_meet
       case rel=>exact⟨y*100000,rfl,by omega,HD.out⟩
     have g4:((d:Int)==4)=false:=by simp;omega
     go_wp2_with fail;go_meet
     case rel=>exact⟨r4,by first|rfl|rw[e4],by omega,HC.out⟩
    case rest=>
    as_aux_lemma=>
    rename World=>vD
    clear HC ed e4;obtain⟨E,rfl,hE,ND⟩:=hcut;have HD:=hid ND;clear ND;go_wp2_with fail;refine(pW (E:Int) (by omega) _).mono ?_;rintro e vE ⟨ia,ic,rfl,rI,hic,hbI⟩;have NE:=HD.out.keep hbI;have rB:RdB vE ia (M.gQ (E:Int)):=⟨M.jX _,rI⟩;have hle:=M.eint_len8 (E:Int) (by omega);obtain⟨ib,io,rfl,_⟩:=rI (M.oT _);clear HD hbI
    go_wp2_with (at_builtin;refine NE.app rfl _ _ rfl rfl ⟨ib,io,none⟩ _ ic (M.gQ (E:Int)) rfl rfl (M.oT _) rB (by omega) ?_)
    intro g rc vF NF;have HF:=hid NF;clear NF;go_wp2_with fail;go_ret;exact⟨_,_,_,rfl,by omega,HF.out⟩

end Go.Proofs.YtfdgkleoaehjaaaGreatDoor
