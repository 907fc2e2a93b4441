import Derived.WalkKit
import Derived.Test.YtfdgkleoaehjaaaGreatDoorRows
import Derived.WalkSpells
import Derived.WalkLawsBesides
import Derived.Laws.CopyOwn
import Derived.Deep.QuietTactic
import Derived.BigQuiet
set_option maxHeartbeats 1000000
namespace Go.Proofs.YtfdgkleoaehjaaaGreatDoor.M
set_option linter.unusedVariables false
set_option maxRecDepth 100000

def val (B:Nat):List Nat->Nat
 |[]=>0
 |x::r=>x+B*val B r

def wZ (B:Nat):Nat->Nat->List Nat
 |0,_=>[]
 |f+1,n=>if 0<n then n%B::wZ B f (n/B)else[]

def dig (B:Nat)(n:Nat):List Nat:=wZ B n n

theorem NK {B:Nat}(hB:1<B)(f:Nat):∀n g,n<=f->n<=g->wZ B f n=wZ B g n:=by
 induction f with
 |zero=>
  intro n g h1 h2;have:n=0:=by omega
  subst this
  cases g<;>simp[wZ]
 |succ f ih=>
  intro n g h1 h2
  by_cases hn:0<n
  . cases g with
    |zero=>omega
    |succ g=>
     have hd:=Nat.div_lt_self hn hB;simp only[wZ,hn,if_true];rw[ih (n/B) g (by omega) (by omega)]
  . have:n=0:=by omega
    subst this
    cases g<;>simp[wZ]

theorem aH (B:Nat):dig B 0=[]:=by simp[dig,wZ]

theorem aV {B n:Nat}(hB:1<B)(hn:0<n):dig B n=n%B::dig B (n/B):=by
 have hd:=Nat.div_lt_self hn hB;unfold dig;obtain⟨m,rfl⟩:∃m,n=m+1:=⟨n-1,by omega⟩;simp only[wZ,hn,if_true];rw[NK hB m ((m+1)/B) ((m+1)/B) (by omega) (by omega)]

theorem gB {B:Nat}(hB:1<B)(n:Nat):val B (dig B n)=n:=by
 induction n using Nat.strongRecOn with
 |_ n ih=>
  by_cases hn:0<n
  . rw[aV hB hn,val,ih _ (Nat.div_lt_self hn hB)];exact Nat.mod_add_div n B
  . have:n=0:=by omega
    subst this;simp[aH,val]

theorem pI {B:Nat}(hB:1<B)(n:Nat):∀x∈dig B n,x<B:=by
 induction n using Nat.strongRecOn with
 |_ n ih=>
  intro x hx
  by_cases hn:0<n
  . rw[aV hB hn]at hx;rcases List.mem_cons.1 hx with rfl|hx
    . exact Nat.mod_lt _ (by omega)
    . exact ih _ (Nat.div_lt_self hn hB) x hx
  . have:n=0:=by omega
    subst this;simp[aH]at hx

theorem dW (B:Nat)(xs ys:List Nat):val B (xs++ys)=val B xs+B^xs.length*val B ys:=by
 induction xs with
 |nil=>simp[val]
 |cons x r ih=>simp only[List.cons_append,val,ih,List.length_cons,Nat.pow_succ];rw[Nat.mul_add,<-Nat.mul_assoc,Nat.mul_comm (B^r.length) B];omega

theorem gJ {B:Nat}(hB:1<B)(xs:List Nat)(h:∀x∈xs,x<B):val B xs<B^xs.length:=by
 induction xs with
 |nil=>simp[val]
 |cons x r ih=>
  have h1:=h x (by simp)
  have h2:=ih (fun y hy=>h y (by simp[hy]))
  simp only[val,List.length_cons,Nat.pow_succ]
  have:B*val B r+B<=B*B^r.length:=by
   rw[<-Nat.mul_succ];exact Nat.mul_le_mul_left _ h2
  rw[Nat.mul_comm (B^r.length) B];omega

theorem DP {B:Nat}(hB:1<B)(xs:List Nat)(h:∀x∈xs,x<B)(hl:∀(hne:xs≠[]),xs.getLast hne≠0):dig B (val B xs)=xs:=by
 induction xs with
 |nil=>simp[val,aH]
 |cons x r ih=>
  have h1:=h x (by simp)
  have hr:dig B (val B r)=r:=ih (fun y hy=>h y (by simp[hy])) (fun hne=>by have:=hl (by simp);rwa[List.getLast_cons hne]at this)
  have hpos:0<val B (x::r):=by
   by_cases hx:x=0
   . have hne:r≠[]:=by
      intro e;subst e;have:=hl (by simp);simp[hx]at this
     have:val B r≠0:=by
      intro e;rw[e,aH]at hr;exact hne hr.symm
     simp only[val];have:0<B*val B r:=Nat.mul_pos (by omega) (by omega);omega
   . simp only[val];omega
  rw[aV hB hpos];have e1:(x+B*val B r)%B=x:=by rw[Nat.add_mul_mod_self_left];exact Nat.mod_eq_of_lt h1
  have e2:(x+B*val B r)/B=val B r:=by
   rw[Nat.add_mul_div_left _ _ (by omega),Nat.div_eq_of_lt h1];omega
  simp only[val,e1,e2,hr]

theorem dL (B n:Nat):val B (List.replicate n 0)=0:=by
 induction n with
 |zero=>rfl
 |succ n ih=>simp[List.replicate_succ,val,ih]

theorem uI {B:Nat}(xs:List Nat)(h:∀x∈xs,x=0):val B xs=0:=by
 induction xs with
 |nil=>rfl
 |cons x r ih=>simp[val,h x (by simp),ih (fun y hy=>h y (by simp[hy]))]

theorem lH {B:Nat}(hB:1<B)(xs:List Nat)(h:∀x∈xs,x<B)(n:Nat)(hn:n<=xs.length)
 (hz:∀j,n<=j->j<xs.length->xs.getD j 0=0)(hl:n=0\/xs.getD (n-1) 0≠0):xs.take n=dig B (val B xs):=by
 have e:val B xs=val B (xs.take n):=by
  conv=>lhs;rw[<-List.take_append_drop n xs]
  rw[dW,uI (xs.drop n)]
  . simp
  . intro x hx;obtain⟨j,hj,rfl⟩:=List.getElem_of_mem hx;rw[List.getElem_drop];have:=hz (n+j) (by omega) (by simp at hj;omega);rw[List.getD_eq_getElem?_getD,List.getElem?_eq_getElem (by simp at hj;omega)]at this
    simpa using this
 rw[e]
 refine(DP hB _ (fun x hx=>h x (List.mem_of_mem_take hx)) ?_).symm
 intro hne;rcases hl with rfl|hl
 . simp at hne
 . have hn0:n≠0:=by intro e;subst e;simp at hne
   rw[List.getLast_eq_getElem];simp only[List.getElem_take,List.length_take];rw[List.getD_eq_getElem?_getD,List.getElem?_eq_getElem (by omega)]at hl;have e1:min n xs.length-1=n-1:=by omega
   simp only[e1]
   simpa using hl

theorem tT {B:Nat}(hB:1<B)(xs:List Nat)(h:∀x∈xs,x<B):(dig B (val B xs)).length<=xs.length:=by
 induction xs with
 |nil=>simp[val,aH]
 |cons x r ih=>
  by_cases hp:0<val B (x::r)
  . have e2:(x+B*val B r)/B=val B r:=by
     rw[Nat.add_mul_div_left _ _ (by omega),Nat.div_eq_of_lt (h x (by simp))];omega
    rw[aV hB hp];simp only[val,e2,List.length_cons]
    have:=ih (fun y hy=>h y (by simp[hy]))
    omega
  . have:val B (x::r)=0:=by omega
    rw[this,aH];simp

theorem bG {B:Nat}(hB:1<B){xs:List Nat}(h:∀x∈xs,x<B)(i:Nat):xs.getD i 0<B:=by
 rw[List.getD_eq_getElem?_getD]
 by_cases hi:i<xs.length
 . rw[List.getElem?_eq_getElem hi];exact h _ (List.getElem_mem hi)
 . rw[List.getElem?_eq_none (by omega)];simp;omega

theorem mJ (xs:List Nat)(k:Nat)(h:k<xs.length):xs.take (k+1)=xs.take k++[xs.getD k 0]:=by
 rw[List.take_succ_eq_append_getElem h,List.getD_eq_getElem?_getD,List.getElem?_eq_getElem h];rfl

theorem gZ (B:Nat)(xs:List Nat):val B xs=xs.getD 0 0+B*val B xs.tail:=by
 cases xs<;>simp[val]

theorem eH (xs:List Nat)(j:Nat):xs.tail.getD j 0=xs.getD (j+1) 0:=by
 cases xs<;>simp

theorem CY (B:Nat)(xs:List Nat):∀ys:List Nat,(∀j,xs.getD j 0=ys.getD j 0)->val B xs=val B ys:=by
 induction xs with
 |nil=>
  intro ys h
  refine(uI ys (fun y hy=>?_)).symm
  obtain⟨j,hj,rfl⟩:=List.getElem_of_mem hy;have:=h j
  simp[List.getD_eq_getElem?_getD,hj]at this
  omega
 |cons x r ih=>
  intro ys h
  rw[gZ B ys,val,ih ys.tail (fun j=>by rw[eH,<-h (j+1)];simp)]
  have:=h 0;simp only[List.getD_cons_zero]at this;rw[this]

theorem sC {B:Nat}(hB:1<B)(k:Nat):∀xs ys:List Nat,(∀x∈xs,x<B)->xs.getD k 0<ys.getD k 0->(∀j,k<j->xs.getD j 0=ys.getD j 0)->val B xs<val B ys:=by
 induction k with
 |zero=>
  intro xs ys hx h he
  rw[gZ B xs,gZ B ys,CY B xs.tail ys.tail (fun j=>by rw[eH,eH];exact he (j+1) (by omega))]
  omega
 |succ k ih=>
  intro xs ys hx h he
  have h1:=ih xs.tail ys.tail (fun x hx'=>hx x (List.mem_of_mem_tail hx')) (by rw[eH,eH];exact h) (fun j hj=>by rw[eH,eH];exact he (j+1) (by omega))
  have h0:=bG hB hx 0;rw[gZ B xs,gZ B ys];have:B*val B xs.tail+B<=B*val B ys.tail:=by rw[<-Nat.mul_succ];exact Nat.mul_le_mul_left _ h1
  omega

theorem j5 {B:Nat}(hB:1<B)(n:Nat):n<B^(dig B n).length:=by
 have:=gJ hB (dig B n) (pI hB n)
 rwa[gB hB]at this

theorem oZ {B:Nat}(hB:1<B)(n:Nat):0<n->B^((dig B n).length-1)<=n:=by
 induction n using Nat.strongRecOn with
 |_ n ih=>
  intro hn;rw[aV hB hn];simp only[List.length_cons,Nat.add_sub_cancel]
  by_cases h:0<n/B
  . have h1:=ih (n/B) (Nat.div_lt_self hn hB) h;have h2:(dig B (n/B)).length≠0:=by rw[aV hB h];simp
    have e:(dig B (n/B)).length=(dig B (n/B)).length-1+1:=by omega
    rw[e,Nat.pow_succ];exact Nat.le_trans (Nat.mul_le_mul_right _ h1) (Nat.div_mul_le_self n B)
  . have:n/B=0:=Nat.eq_zero_of_not_pos h;rw[this,aH]
    show B^0<=n
    rw[Nat.pow_zero];exact hn

theorem dF {B:Nat}(hB:1<B){a b:Nat}(h:(dig B a).length<(dig B b).length):a<b:=by
 have h1:=j5 hB a
 have hb:0<b:=by
  rcases Nat.eq_zero_or_pos b with rfl|hb
  . simp[aH]at h
  . exact hb
 have h2:=oZ hB b hb;have h3:B^(dig B a).length<=B^((dig B b).length-1):=Nat.pow_le_pow_right (by omega) (by omega);omega

def eZ:List Nat->List Nat
 |[]=>[]
 |x::r=>x%4294967296::x/4294967296::eZ r

theorem tM (xs ys:List Nat):eZ (xs++ys)=eZ xs++eZ ys:=by
 induction xs with
 |nil=>rfl
 |cons x r ih=>simp[eZ,ih]

theorem tP (xs:List Nat):(eZ xs).length=2*xs.length:=by
 induction xs with
 |nil=>rfl
 |cons x r ih=>simp[eZ,ih];omega

theorem FJ (xs:List Nat)(h:∀x∈xs,x<18446744073709551616):∀x∈eZ xs,x<4294967296:=by
 induction xs with
 |nil=>simp[eZ]
 |cons x r ih=>
  intro y hy;have hx:=h x (by simp);simp only[eZ,List.mem_cons]at hy;rcases hy with rfl|rfl|hy
  . omega
  . omega
  . exact ih (fun z hz=>h z (by simp[hz])) y hy

theorem AX (xs:List Nat):val 4294967296 (eZ xs)=val 18446744073709551616 xs:=by
 induction xs with
 |nil=>rfl
 |cons x r ih=>simp only[eZ,val,ih];omega

theorem yG {B:Nat}(hB:1<B)(n:Nat):0<n->(dig B n).getD ((dig B n).length-1) 0≠0:=by
 induction n using Nat.strongRecOn with
 |_ n ih=>
  intro hn
  by_cases h:0<n/B
  . have h1:=ih (n/B) (Nat.div_lt_self hn hB) h;rw[aV hB hn];have h2:(dig B (n/B)).length≠0:=by rw[aV hB h];simp
    simp only[List.length_cons,Nat.add_sub_cancel];obtain⟨m,hm⟩:∃m,(dig B (n/B)).length=m+1:=⟨(dig B (n/B)).length-1,by omega⟩;rw[hm]at h1|-
    simpa using h1
  . have h0:n/B=0:=Nat.eq_zero_of_not_pos h;rw[aV hB hn,h0,aH];have:=Nat.mod_add_div n B;rw[h0]at this
    simp;omega

theorem AG {B:Nat}(hB:1<B)(xs:List Nat)(h:∀x∈xs,x<B)(hl:xs=[]\/xs.getD (xs.length-1) 0≠0):xs=dig B (val B xs):=by
 refine(DP hB xs h (fun hne=>?_)).symm
 rcases hl with rfl|hl
 . exact absurd rfl hne
 . rw[List.getLast_eq_getElem]
   have:xs.length≠0:=fun e=>hne (List.eq_nil_of_length_eq_zero e)
   rw[List.getD_eq_getElem?_getD,List.getElem?_eq_getElem (by omega)]at hl
   simpa using hl

def pk (C:Nat)(xs:List Nat)(k:Nat):List Nat:=(List.range k).map fun i=>xs.getD (2*i) 0+xs.getD (2*i+1) 0*C

theorem FF (C:Nat)(xs:List Nat)(k:Nat):(pk C xs k).length=k:=by simp[pk]

theorem C5 (C:Nat)(xs:List Nat)(k:Nat):pk C xs (k+1)=pk C xs k++[xs.getD (2*k) 0+xs.getD (2*k+1) 0*C]:=by
 simp[pk,List.range_succ]

theorem NH (C:Nat)(xs:List Nat)(k:Nat):pk C xs (k+1)=(xs.getD 0 0+xs.getD 1 0*C)::pk C xs.tail.tail k:=by
 unfold pk;rw[List.range_succ_eq_map,List.map_cons,List.map_map];refine congrArg (List.cons _) (List.map_congr_left ?_);intro i _;simp only[Function.comp,eH];rw[show 2*Nat.succ i=2*i+1+1 by omega]

theorem OM (C k:Nat):∀xs:List Nat,xs.length<=2*k->val (C*C) (pk C xs k)=val C xs:=by
 induction k with
 |zero=>intro xs h;have:xs=[]:=List.eq_nil_of_length_eq_zero (by omega);subst this;simp[pk,val]
 |succ k ih=>
  intro xs h;have e1:=gZ C xs;have e2:=gZ C xs.tail;rw[eH,Nat.zero_add]at e2;rw[NH,val,ih xs.tail.tail (by simp;omega),e1,e2,Nat.mul_add,Nat.mul_comm (xs.getD 1 0) C,Nat.mul_assoc];omega

theorem RG {C:Nat}(hC:1<C)(xs:List Nat)(h:∀x∈xs,x<C)(k:Nat):∀x∈pk C xs k,x<C*C:=by
 intro x hx;obtain⟨i,_,rfl⟩:=List.mem_map.1 hx;have h1:=bG hC h (2*i);have h2:=bG hC h (2*i+1);have h3:(xs.getD (2*i+1) 0+1)*C<=C*C:=Nat.mul_le_mul_right _ h2;rw[Nat.add_mul]at h3;omega

theorem QA {C:Nat}(hC:1<C)(n:Nat):pk C (dig C n) (((dig C n).length+1)/2)=dig (C*C) n:=by
 have hCC:1<C*C:=Nat.lt_of_lt_of_le hC (Nat.le_mul_of_pos_left _ (by omega));have e:=AG hCC (pk C (dig C n) (((dig C n).length+1)/2)) (RG hC _ (pI hC n) _) ?_
 . rw[OM _ _ _ (by omega),gB hC]at e;exact e
 . by_cases hn:0<n
   . right
     rw[FF];have h1:=yG hC n hn;have h2:(dig C n).length≠0:=by rw[aV hC hn];simp
     obtain⟨k,hk⟩:∃k,((dig C n).length+1)/2=k+1:=⟨((dig C n).length+1)/2-1,by omega⟩;rw[hk,Nat.add_sub_cancel]
     have e:(pk C (dig C n) (k+1)).getD k 0=(dig C n).getD (2*k) 0+(dig C n).getD (2*k+1) 0*C:=by
      simp[pk,List.getD_eq_getElem?_getD]
     rw[e];rcases Nat.lt_or_ge (2*k+1) (dig C n).length with h|h
     . rw[show(dig C n).length-1=2*k+1 by omega]at h1;have:0<(dig C n).getD (2*k+1) 0*C:=Nat.mul_pos (by omega) (by omega);omega
     . rw[show(dig C n).length-1=2*k by omega]at h1;omega
   . have:n=0:=by omega
     subst this;left;simp[aH,pk]

theorem aJ (B:Nat)(xs:List Nat)(k:Nat):val B (xs.take (k+1))=val B (xs.take k)+B^k*xs.getD k 0:=by
 by_cases h:k<xs.length
 . rw[mJ xs k h,dW];have:(xs.take k).length=k:=by simp;omega
   rw[this];simp[val]
 . rw[List.take_of_length_le (by omega),List.take_of_length_le (by omega),List.getD_eq_getElem?_getD,List.getElem?_eq_none (by omega)]
   simp

theorem iA (B:Nat)(xs:List Nat)(x:Nat):val B (xs++[x])=val B xs+B^xs.length*x:=by
 rw[dW];simp[val]

theorem sW {S c P t:Nat}(h:S+c*P=t)(ht:t<P):c=0/\S=t:=by
 rcases Nat.eq_zero_or_pos c with rfl|hc
 . simp at h;exact⟨rfl,h⟩
 . have:=Nat.le_mul_of_pos_left P hc;omega

theorem DY {S c P B A A' x y o c':Nat}(h:S+c*P=A+A')(hs:o+B*c'=x+y+c):S+P*o+c'*(P*B)=(A+P*x)+(A'+P*y):=by
 have e:P*(o+B*c')=P*(x+y+c):=by rw[hs]
 simp only[Nat.mul_add]at e;rw[Nat.mul_comm c' (P*B),Nat.mul_assoc];rw[Nat.mul_comm c P]at h;omega

end Go.Proofs.YtfdgkleoaehjaaaGreatDoor.M
namespace Go.Proofs.YtfdgkleoaehjaaaGreatDoor
open Go.RowKit
set_option linter.unusedVariables false
set_option maxRecDepth 100000

theorem Tryz.infoU:(Tryz.prog.info? 25).map (fun i=>(i.zero,i.size,i.bytes))=some (some (.int .u64 0),1,8):=by kernel_rfl

def U (xs:List Nat):List Value:=xs.map fun x:Nat=>Value.int .u64 (x:Int)

theorem dV (xs:List Nat):(U xs).length=xs.length:=by simp[U]

theorem dH (xs ys:List Nat):U (xs++ys)=U xs++U ys:=by simp[U]

theorem DJ (xs:List Nat)(i:Nat)(h:i<xs.length):(U xs)[i]? =some (.int .u64 ((xs.getD i 0:Nat):Int)):=by
 simp[U,List.getD_eq_getElem?_getD,List.getElem?_eq_getElem h]

theorem i7 (xs:List Nat):∀u∈U xs,u.oneCell'=true:=by
 intro u hu;obtain⟨_,_,rfl⟩:=List.mem_map.1 hu;rfl

def Rd (w:World)(ao:Option Addr)(xs:List Nat):Prop:=
 0<xs.length->∃b off,ao=some ⟨b,off,none⟩/\∀i,i<xs.length->w.cell? ⟨b,off+i,none⟩=some (.int .u64 ((xs.getD i 0:Nat):Int))

theorem Rd.nil (w:World)(ao:Option Addr):Rd w ao []:=fun h=>by simp at h

theorem Rd.below {w w':World}{ao:Option Addr}{xs:List Nat}(h:Rd w ao xs)(hb:Below w.heap.size w w'):Rd w' ao xs:=by
 intro hp;obtain⟨b,off,e,hc⟩:=h hp
 refine⟨b,off,e,fun i hi=>?_⟩
 exact(hb.cell (p:=⟨b,off+i,none⟩) (World.block_lt_of_cell? w _ (hc i hi))).trans (hc i hi)

theorem Rd.take {w:World}{ao:Option Addr}{xs:List Nat}(h:Rd w ao xs)(n:Nat):Rd w ao (xs.take n):=by
 intro hp;have hl:(xs.take n).length<=xs.length:=by simp;omega
 obtain⟨b,off,e,hc⟩:=h (by omega)
 refine⟨b,off,e,fun i hi=>?_⟩
 rw[hc i (by omega)];have:i<n:=by simp at hi;omega
 simp[List.getD_eq_getElem?_getD,this]

theorem Rd.own {w:World}{base n cap:Nat}{ao:Option Addr}{xs:List Nat}(h:w.ownsRow base 25 1 (.slice ao n cap) n (U xs)):Rd w ao xs:=by
 intro hp;have hl:=h.1;rw[dV]at hl;rcases h.2 with⟨he,h0⟩|⟨g,cap',cur,he,_,hg,_,_,_,ht⟩
 . omega
 . simp only[Value.slice.injEq]at he;obtain⟨rfl,_,rfl⟩:=he
   refine⟨g,0,rfl,fun i hi=>?_⟩
   have:=h.cellAt i (by omega);rw[Nat.zero_add,this,DJ xs i hi]

theorem bF {w:World}{base n cap:Nat}{ao:Option Addr}{xs:List Value}(h:w.ownsRow base 25 1 (.slice ao n cap) n xs):n<=cap:=by
 rcases h.2 with⟨he,h0⟩|⟨g,cap',cur,he,_,hg,hc,_⟩
 . simp at he;omega
 . simp only[Value.slice.injEq]at he;obtain⟨_,_,rfl⟩:=he;exact hc

theorem fF {w:World}{base n:Nat}{v:Value}{xs:List Value}(h:w.ownsRow base 25 1 v n xs):∃ao cap,v=.slice ao n cap:=by
 rcases h.2 with⟨rfl,rfl⟩|⟨g,cap',cur,rfl,_⟩
 . exact⟨none,0,rfl⟩
 . exact⟨_,_,rfl⟩

theorem aM {w:World}{base base' n:Nat}{v:Value}{xs:List Value}(h:w.ownsRow base 25 1 v n xs)(hb:base'<=base):w.ownsRow base' 25 1 v n xs:=by
 refine⟨h.1,?_⟩;rcases h.2 with h'|⟨g,cap',cur,e,hg,r⟩
 . exact .inl h'
 . exact .inr ⟨g,cap',cur,e,by omega,r⟩

theorem cH {w w':World}{base n:Nat}{v:Value}{xs:List Value}(h:w.ownsRow base 25 1 v n xs)(hb:Below w.heap.size w w'):w'.ownsRow base 25 1 v n xs:=by
 refine⟨h.1,?_⟩;rcases h.2 with h'|⟨g,cap',cur,e,hg,hh,r⟩
 . exact .inl h'
 . exact .inr ⟨g,cap',cur,e,hg,by rw[hb.block g (Array.getElem?_eq_some_iff.1 hh).1];exact hh,r⟩

theorem vH {w:World}{base g n:Nat}{xs:List Value}(h:w.ownsRow base 25 1 (.slice (some ⟨g,0,none⟩) n n) n xs):w.heap[g]? =some (.cells xs.toArray 25 (0,0)):=by
 rcases h.2 with⟨he,h0⟩|⟨g',cap',cur,he,_,hg,_,_,hs,ht⟩
 . simp at he
 . simp only[Value.slice.injEq,Option.some.injEq,Addr.mk.injEq]at he;obtain⟨⟨rfl,_⟩,_,rfl⟩:=he;rw[hg,<-ht,List.take_of_length_le (by rw[Array.length_toList];omega)]

theorem jI {w:World}{base g n:Nat}{xs:List Value}(h:w.heap[g]? =some (.cells xs.toArray 25 (0,0)))(hb:base<=g)(hn:xs.length=n)(hm:n<=maxLen):w.ownsRow base 25 1 (.slice (some ⟨g,0,none⟩) n n) n xs:=
 ⟨by omega,.inr ⟨g,n,xs.toArray,rfl,hb,h,Nat.le_refl _,hm,by simp[hn],by simp[<-hn]⟩⟩

theorem AK (k:Nat):(madeCells #[Value.int .u64 0] k).toList=U (List.replicate k 0):=by
 rw[toList_madeCells_one];simp[U]

theorem Rd.cellAdd {w:World}{ao:Option Addr}{xs:List Nat}{b off:Nat}(hc:∀i,i<xs.length->w.cell? ⟨b,off+i,none⟩=some (.int .u64 ((xs.getD i 0:Nat):Int))):
 ∀j v,(U xs)[j]? =some v->w.cell? ((⟨b,off,none⟩:Addr).add j)=some v:=by
 intro j v hv;have hj:j<xs.length:=by have:=(List.getElem?_eq_some_iff.1 hv).1;rwa[dV]at this
 rw[Addr.add_lit,hc j hj,<-DJ xs j hj,hv]

theorem oV (dT:TypeId)(hu:Tryz.prog.underlying dT=some (.slice 25))(w1:World)(g dn dc:Nat)(zs:List Value)(hg:w1.heap[g]? =some (.cells zs.toArray 25 (0,0)))
 (ao:Option Addr)(ys:List Nat)(sn sc:Nat)(hy:ys.length=sn)(hr:Rd w1 ao ys)(h1:sn<=dn)(h2:sn<=zs.length):
 ∃w2,(Builtin.copy_ #[dT,dT] 3 #[.slice (some ⟨g,0,none⟩) dn dc,.slice ao sn sc]).run Tryz.prog w1=.ok (.int .i64 (sn:Int)) w2/\
  w2.heap[g]? =some (.cells (U ys++zs.drop sn).toArray 25 (0,0))/\w1.grownBy w2 (some g):=by
 have hs:(Tryz.prog.info? 25).map (·.size)=some 1:=by
  obtain⟨i0,hi,hz0,hz1,hz2⟩:=info_parts Tryz.infoU;rw[hi];simp[hz1]
 by_cases h0:sn=0
 . subst h0;have:ys=[]:=List.eq_nil_of_length_eq_zero hy;subst this;refine⟨w1,run_copy_none w1 dT dT 3 25 _ ao dn dc 0 sc hu hs (by simp),?_,World.grownBy.refl _ _⟩
   simpa[U]using hg
 . obtain⟨b,off,rfl,hc⟩:=hr (by omega);have hl:(U ys).length=sn:=by rw[dV,hy]
   have e:=run_copy_row (P:=Tryz.prog) w1 dT dT 3 25 g 0 dn dc ⟨b,off,none⟩ sn sc zs.toArray 25 (U ys) hu hs hg (by rw[hl];show sn=min sn dn;omega) (Rd.cellAdd (ao:=none) hc) (by simp[hl];omega) (i7 ys);rw[hl]at e;refine⟨_,e,?_,?_⟩
   . rw[setRow_heap w1 g _ _ _ _ hg];simp
   . exact⟨rfl,rfl,rfl,by simp,fun k _ hk=>setRow_other w1 g k _ (fun e=>hk (by simp[e]))⟩

def Blk (w:World)(g:Nat)(zs:List Nat):Prop:=w.heap[g]? =some (.cells (U zs).toArray 25 (0,0))

theorem Blk.lt {w:World}{g:Nat}{zs:List Nat}(h:Blk w g zs):g<w.heap.size:=(Array.getElem?_eq_some_iff.1 h).1

theorem Blk.cell {w:World}{g:Nat}{zs:List Nat}(h:Blk w g zs)(i:Nat)(hi:i<zs.length):w.cell? ⟨g,i,none⟩=some (.int .u64 ((zs.getD i 0:Nat):Int)):=by
 rw[cell_of_row w g i _ _ (0,0) h,List.getElem?_toArray,DJ zs i hi]

theorem Blk.frozen {w:World}{g:Nat}{zs:List Nat}(h:Blk w g zs)(i:Nat):w.frozen? ⟨g,i,none⟩=false:=frozen_of_row w g i _ _ h

theorem NS (zs:List Nat)(i x:Nat):U (zs.set i x)=(U zs).set i (.int .u64 (x:Int)):=by simp[U,List.map_set]

theorem Blk.set {w:World}{g:Nat}{zs:List Nat}(h:Blk w g zs)(i:Nat)(x:Nat)(v:Int)(hv:v=(x:Int)):Blk (w.setCell ⟨g,i,none⟩ (.int .u64 v)) g (zs.set i x):=by
 subst hv;unfold Blk;rw[heap_setCell_same w g i _ _ _ h,NS]
 simp

theorem Blk.set_other {w:World}{g:Nat}{zs:List Nat}(h:Blk w g zs)(a:Addr)(ha:a.block≠g)(v:Value):Blk (w.setCell a v) g zs:=by
 unfold Blk
 rw[Below.heap_setCell _ _ _ _ (fun e=>ha e.symm)];exact h

theorem Blk.below {w w':World}{B g:Nat}{zs:List Nat}(h:Blk w g zs)(hb:Below B w w')(hg:g<B):Blk w' g zs:=(hb.block g hg).trans h

theorem Blk.keep {w w':World}{g:Nat}{zs:List Nat}(h:Blk w g zs)(hb:Below w.heap.size w w'):Blk w' g zs:=(hb.block g h.lt).trans h

theorem Blk.grown {w w':World}{g:Nat}{zs:List Nat}{row:Option Nat}(h:Blk w g zs)(hb:w.grownBy w' row)(hr:some g≠row):Blk w' g zs:=(hb.block g h.lt hr).trans h

theorem Blk.drewN {w:World}{g:Nat}{zs:List Nat}(h:Blk w g zs)(q:Nat):Blk (w.drewN q) g zs:=by
 unfold Blk;rw[World.heap_drewN];exact h

theorem Blk.rd {w:World}{g:Nat}{zs:List Nat}(h:Blk w g zs)(off n:Nat)(hn:off+n<=zs.length):Rd w (some ⟨g,off,none⟩) ((zs.drop off).take n):=by
 intro hp
 refine⟨g,off,rfl,fun i hi=>?_⟩
 have hi':i<n:=by simp at hi;omega
 rw[h.cell (off+i) (by omega)]
 simp[List.getD_eq_getElem?_getD,hi']

theorem Blk.rd0 {w:World}{g:Nat}{zs:List Nat}(h:Blk w g zs):Rd w (some ⟨g,0,none⟩) zs:=by
 have:=h.rd 0 zs.length (by omega)
 simpa using this

theorem Blk.own {w:World}{base g n:Nat}{zs:List Nat}(h:Blk w g zs)(hb:base<=g)(hn:zs.length=n)(hm:n<=maxLen):w.ownsRow base 25 1 (.slice (some ⟨g,0,none⟩) n n) n (U zs):=
 jI h hb (by rw[dV,hn]) hm

theorem fL (w:World)(n:Nat):Blk (w.alloc (.cells (madeCells #[Value.int .u64 0] n) 25)) w.heap.size (List.replicate n 0):=by
 unfold Blk;rw[heap_alloc_new w _,<-AK]

theorem kG (x y i:Nat)(hx:x<2^i):x|||y*2^i=x+y*2^i:=by
 rw[Nat.or_comm,<-Nat.shiftLeft_eq,<-Nat.shiftLeft_add_eq_or_of_lt hx,Nat.add_comm]

theorem vX (x y:Nat)(hx:x<4294967296)(hy:y<4294967296):bits BinOp.or IntKind.u64 (x:Int) ((y:Int)*4294967296)=((x+y*4294967296:Nat):Int):=by
 have e:(y:Int)*4294967296=((y*4294967296:Nat):Int):=by omega
 have h:=kG x y 32 (by omega);rw[show(2:Nat)^32=4294967296 from rfl]at h;rw[e,u64_or_nat x (y*4294967296) (by omega) (by omega),h]

theorem j6 {w w1:World}{row:Option Nat}(h:w.grownBy w1 row)(hr:∀k,row=some k->w.heap.size<=k):Below w.heap.size w w1:=(Below.refl _ w).grown h (Nat.le_refl _) hr

def L (n:Nat):List Nat:=M.dig 18446744073709551616 n

def V (xs:List Nat):Nat:=M.val 18446744073709551616 xs

def D (n:Nat):List Nat:=M.dig 4294967296 n

def X (xs:List Nat):Nat:=M.val 4294967296 xs

def F64 (xs:List Nat):Prop:=∀x∈xs,x<18446744073709551616

def F32 (xs:List Nat):Prop:=∀x∈xs,x<4294967296

theorem V_L (n:Nat):V (L n)=n:=M.gB (by omega) n

theorem X_D (n:Nat):X (D n)=n:=M.gB (by omega) n

theorem gP (n:Nat):F64 (L n):=M.pI (by omega) n

theorem iD (n:Nat):F32 (D n):=M.pI (by omega) n

theorem F64.get {xs:List Nat}(h:F64 xs)(i:Nat):xs.getD i 0<18446744073709551616:=M.bG (by omega) h i

theorem F32.get {xs:List Nat}(h:F32 xs)(i:Nat):xs.getD i 0<4294967296:=M.bG (by omega) h i

theorem hid {p:Prop}(h:p):Hid p:=h

theorem cG {k:IntKind}{a b:Int}(h:a=b):Ending.returned (.int k a)=.returned (.int k b):=by rw[h]

theorem yS {B:Nat}(hB:1<B){xs:List Nat}(h:∀x∈xs,x<B){n k:Nat}(hk:k<=n)(hl:xs.length=n)
 (hz:∀j,k<=j->j<n->xs.getD j 0=0)(h0:k=0\/xs.getD (k-1) 0≠0):(M.dig B (M.val B xs)).length=k:=by
 rw[<-M.lH hB xs h k (by omega) (fun j h1 h2=>hz j h1 (by omega)) h0]
 simp;omega

theorem dI (ao:Option Addr)(n cap:Nat)(xs:List Nat)(w:World)(hl:xs.length=n)(hcap:n<=cap)(hn:n<=4194304)(hx:F64 xs)(hr:Rd w ao xs):
 Calls Tryz.prog 113 #[.slice ao n cap] w fun e w'=>e=.returned (.slice ao (L (V xs)).length cap)/\w'=w:=by
 go_enter Tryz.func113,Tryz.ntmps113
 go_wp2
 go_loop [3] (fun i=>∃k:Nat,k<=n/\i=.int .i64 k/\∀j,k<=j->j<n->xs.getD j 0=0) (fun i=>(intOf i).toNat)
 case atStart=>exact⟨n,Nat.le_refl _,rfl,fun j h1 h2=>by omega⟩
 case round=>
  obtain⟨k,hk,rfl,hz⟩:=hrel;have HZ:=hid hz;clear hz
  by_cases h0:0<k
  . obtain⟨b,off,hao,hc⟩:=hr (by omega);have hck:=hc (k-1) (by omega);have HC:=hid hc;clear hc;obtain⟨x,hxx⟩:∃x:Int,x=((xs.getD (k-1) 0:Nat):Int):=⟨_,rfl⟩;rw[<-hxx]at hck;have HX:=hid hxx;clear hxx
    by_cases hx0:x=0
    . have hxb:(x==0)=true:=by simp[hx0]
      have HX0:=hid hx0;clear hx0
      go_wp2
      go_round
      case rel=>
       refine⟨k-1,by omega,by go_num,?_⟩;intro j h1 h2
       by_cases e:j=k-1
       . have:=HX.out;rw[HX0.out]at this;subst e;omega
       . exact HZ.out j (by omega) h2
      case measure=>simp[intOf];omega
    . have hxb:(x==0)=false:=by simp[hx0]
      have HX0:=hid hx0;clear hx0
      go_wp2
      go_ret;have hlen:(L (V xs)).length=_:=yS (B:=18446744073709551616) (by omega) hx hk hl HZ.out (Or.inr (by have:=HX.out;have:=HX0.out;omega));exact⟨by rw[hlen];rfl,rfl⟩
  . have hk0:k=0:=by omega
    subst hk0
    go_wp2
    go_ret;have hlen:(L (V xs)).length=_:=yS (B:=18446744073709551616) (by omega) hx hk hl HZ.out (Or.inl rfl);exact⟨by rw[hlen];rfl,rfl⟩

theorem bZ (B:Nat)(hB:1<B)(ao:Option Addr)(n cap:Nat)(xs:List Nat)(w:World)(hl:xs.length=n)(hcap:n<=cap)(hn:n<=4194304)(hx:∀x∈xs,x<B)(hr:Rd w ao xs):
 Calls Tryz.prog 55 #[.slice ao n cap] w fun e w'=>∃ao' cap',e=.returned (.slice ao' (M.dig B (M.val B xs)).length cap')/\w'.ownsRow w.heap.size 25 1 (.slice ao' (M.dig B (M.val B xs)).length cap') (M.dig B (M.val B xs)).length (U (M.dig B (M.val B xs)))/\Below w.heap.size w w':=by
 obtain⟨i0,hi,hz0,hz1,hz2⟩:=info_parts Tryz.infoU;go_enter Tryz.func55,Tryz.ntmps55
 go_wp2
 go_loop [3] (fun i=>∃k:Nat,k<=n/\i=.int .i64 k/\∀j,k<=j->j<n->xs.getD j 0=0) (fun i=>(intOf i).toNat)
 case atStart=>exact⟨n,Nat.le_refl _,rfl,fun j h1 h2=>by omega⟩
 case round=>
  obtain⟨k,hk,rfl,hz⟩:=hrel;have HZ:=hid hz;clear hz
  by_cases h0:0<k
  . obtain⟨b,off,hao,hc⟩:=hr (by omega);have hck:=hc (k-1) (by omega);have HC:=hid hc;clear hc;obtain⟨x,hxx⟩:∃x:Int,x=((xs.getD (k-1) 0:Nat):Int):=⟨_,rfl⟩;rw[<-hxx]at hck;have HX:=hid hxx;clear hxx
    by_cases hx0:x=0
    . have hxb:(x==0)=true:=by simp[hx0]
      have HX0:=hid hx0;clear hx0
      go_wp2
      go_round
      case rel=>
       refine⟨k-1,by omega,by go_num,?_⟩;intro j h1 h2
       by_cases e:j=k-1
       . have:=HX.out;rw[HX0.out]at this;subst e;omega
       . exact HZ.out j (by omega) h2
      case measure=>simp[intOf];omega
    . have hxb:(x==0)=false:=by simp[hx0]
      have HX0:=hid hx0;clear hx0
      have hlen:xs.take k=M.dig B (M.val B xs):=M.lH hB xs hx k (by omega) (fun j h1 h2=>HZ.out j h1 (by omega)) (Or.inr (by have:=HX.out;have:=HX0.out;omega))
      have HL:=hid hlen;clear hlen
      go_wp2_with (at_make;refine wpList_make_full _ rfl _ _ 56 rfl w.heap.size 25 i0 (.int .u64 0) 1 Tryz.underlying56 hi hz0 hz1 _ _ _ _ k rfl rfl rfl rfl (by rw[hz2];omega) (by unfold maxLen;omega) (Nat.le_refl _) ?_)
      intro w1 hown hgrow;rw[AK]at hown
      have hb1:=j6 hgrow (fun _ h=>by cases h)
      have hrd:Rd w1 (some ⟨b,off,none⟩) (xs.take k):=by rw[<-hao];exact(hr.take k).below hb1
      obtain⟨w2,hcp,hg2,hgr2⟩:=oV 56 Tryz.underlying56 w1 w.heap.size k k _ (vH hown) _ (xs.take k) k cap (by simp;omega) hrd (Nat.le_refl _) (by simp[U])
      go_wp2
      go_ret;have e:=HL.out;have el:(M.dig B (M.val B xs)).length=k:=by rw[<-e];simp;omega
      rw[el,<-e];refine⟨_,_,rfl,jI (by simpa[U]using hg2) (Nat.le_refl _) (by simp[U];omega) (by unfold maxLen;omega),?_⟩
      exact hb1.trans ((Below.refl _ _).grown hgr2 hgrow.size (fun _ h=>by cases h;exact Nat.le_refl _))
  . have hk0:k=0:=by omega
    subst hk0
    have hlen:xs.take 0=M.dig B (M.val B xs):=M.lH hB xs hx 0 (by omega) (fun j h1 h2=>HZ.out j h1 (by omega)) (Or.inl rfl)
    have HL:=hid hlen;clear hlen
    go_wp2_with (at_make;refine wpList_make_full _ rfl _ _ 56 rfl w.heap.size 25 i0 (.int .u64 0) 1 Tryz.underlying56 hi hz0 hz1 _ _ _ _ 0 rfl rfl rfl rfl (by omega) (by unfold maxLen;omega) (Nat.le_refl _) ?_)
    intro w1 hown hgrow;rw[AK]at hown
    have hb1:=j6 hgrow (fun _ h=>by cases h)
    obtain⟨w2,hcp,hg2,hgr2⟩:=oV 56 Tryz.underlying56 w1 w.heap.size 0 0 _ (vH hown) ao [] 0 cap rfl (Rd.nil _ _) (Nat.le_refl _) (by simp[U])
    go_wp2
    go_ret;have e:=HL.out;rw[<-e];refine⟨_,_,rfl,jI (by simpa[U]using hg2) (Nat.le_refl _) (by simp[U]) (by simp[maxLen]),?_⟩
    exact hb1.trans ((Below.refl _ _).grown hgr2 hgrow.size (fun _ h=>by cases h;exact Nat.le_refl _))

theorem ML (ao:Option Addr)(n cap k:Nat)(xs:List Nat)(w:World)(hl:xs.length=n)(hk:k<n)(hn:n<=4194304)(hr:Rd w ao xs):
 Calls Tryz.prog 60 #[.slice ao n cap,.int .i64 (k:Int)] w fun e w'=>e=.returned (.int .u64 ((xs.getD k 0:Nat):Int))/\w'=w:=by
 obtain⟨b,off,hao,hc⟩:=hr (by omega);have hck:=hc k (by omega);clear hc;obtain⟨x,hxx⟩:∃x:Int,x=((xs.getD k 0:Nat):Int):=⟨_,rfl⟩;rw[<-hxx]at hck|-;clear hxx;go_enter Tryz.func60,Tryz.ntmps60
 go_wp2
 go_ret;exact⟨rfl,rfl⟩

theorem KW (ao:Option Addr)(n cap k:Nat)(w:World)(hk:n<=k)(hk2:k<=4194304):
 Calls Tryz.prog 60 #[.slice ao n cap,.int .i64 (k:Int)] w fun e w'=>e=.returned (.int .u64 0)/\w'=w:=by
 have h:¬(k:Int)<(n:Int):=by omega
 go_enter Tryz.func60,Tryz.ntmps60
 go_wp2
 go_ret;exact⟨rfl,rfl⟩

theorem cO (ao:Option Addr)(n cap k:Nat)(xs:List Nat)(w:World)(hl:xs.length=n)(hk:k<=4194304)(hn:n<=4194304)(hr:Rd w ao xs)(x:Nat)(hx:x=xs.getD k 0):
 Calls Tryz.prog 60 #[.slice ao n cap,.int .i64 (k:Int)] w fun e w'=>e=.returned (.int .u64 (x:Int))/\w'=w:=by
 subst hx
 by_cases h:k<n
 . exact ML ao n cap k xs w hl h hn hr
 . have:xs.getD k 0=0:=by rw[List.getD_eq_getElem?_getD,List.getElem?_eq_none (by omega)];rfl
   rw[this];exact KW ao n cap k w (by omega) hk

def aY (a b:Int):Int:=if a<b then-1 else if b<a then 1 else 0

theorem zU (a b:Int)(w:World):Calls Tryz.prog 170 #[.int .i64 a,.int .i64 b] w fun e w'=>e=.returned (.int .i64 (aY a b))/\w'=w:=by
 have e1:(a !=a)=false:=by simp
 have e2:(b !=b)=false:=by simp
 by_cases h1:a<b
 . have:aY a b= -1:=by simp[aY,h1]
   rw[this];go_enter Tryz.func170,Tryz.ntmps170
   go_wp2
   go_ret;exact⟨rfl,rfl⟩
 . by_cases h2:b<a
   . have:aY a b=1:=by simp[aY,h1,h2]
     rw[this];go_enter Tryz.func170,Tryz.ntmps170
     go_wp2
     go_ret;exact⟨rfl,rfl⟩
   . have:aY a b=0:=by simp[aY,h1,h2]
     rw[this];go_enter Tryz.func170,Tryz.ntmps170
     go_wp2
     go_ret;exact⟨rfl,rfl⟩

theorem xG (a b:Int)(w:World):Calls Tryz.prog 79 #[.int .u64 a,.int .u64 b] w fun e w'=>e=.returned (.int .i64 (aY a b))/\w'=w:=by
 have e1:(a !=a)=false:=by simp
 have e2:(b !=b)=false:=by simp
 by_cases h1:a<b
 . have:aY a b= -1:=by simp[aY,h1]
   rw[this];go_enter Tryz.func79,Tryz.ntmps79
   go_wp2
   go_ret;exact⟨rfl,rfl⟩
 . by_cases h2:b<a
   . have:aY a b=1:=by simp[aY,h1,h2]
     rw[this];go_enter Tryz.func79,Tryz.ntmps79
     go_wp2
     go_ret;exact⟨rfl,rfl⟩
   . have:aY a b=0:=by simp[aY,h1,h2]
     rw[this];go_enter Tryz.func79,Tryz.ntmps79
     go_wp2
     go_ret;exact⟨rfl,rfl⟩

theorem fH {a b:Nat}(h:a<b):aY (a:Int) (b:Int)= -1:=by unfold aY;rw[if_pos (by omega)]

theorem fD {a b:Nat}(h:b<a):aY (a:Int) (b:Int)=1:=by unfold aY;rw[if_neg (by omega),if_pos (by omega)]

theorem qL {a b:Nat}(h:a=b):aY (a:Int) (b:Int)=0:=by unfold aY;rw[if_neg (by omega),if_neg (by omega)]

theorem M9 (a b:Nat)(h:(L a).length≠(L b).length):aY ((L a).length:Int) ((L b).length:Int)=aY (a:Int) (b:Int):=by
 rcases Nat.lt_or_gt_of_ne h with h|h
 . rw[fH h,fH (M.dF (by omega) h)]
 . rw[fD h,fD (M.dF (by omega) h)]

theorem iZ (xs:List Nat)(j:Nat)(h:xs.length<=j):xs.getD j 0=0:=by
 rw[List.getD_eq_getElem?_getD,List.getElem?_eq_none (by omega)];rfl

theorem BQ {B:Nat}(hB:1<B)(a b k:Nat)(x y:Nat)(hx:x=(M.dig B a).getD k 0)(hy:y=(M.dig B b).getD k 0)(hne:x≠y)(he:∀j,k<j->(M.dig B a).getD j 0=(M.dig B b).getD j 0):
 aY (x:Int) (y:Int)=aY (a:Int) (b:Int):=by
 rcases Nat.lt_or_gt_of_ne hne with h|h
 . have:=M.sC hB k (M.dig B a) (M.dig B b) (M.pI hB a) (by omega) he;rw[M.gB hB,M.gB hB]at this;rw[fH h,fH this]
 . have:=M.sC hB k (M.dig B b) (M.dig B a) (M.pI hB b) (by omega) (fun j hj=>(he j hj).symm)
   rw[M.gB hB,M.gB hB]at this;rw[fD h,fD this]

theorem CX {B:Nat}(hB:1<B)(a b:Nat)(he:∀j,(M.dig B a).getD j 0=(M.dig B b).getD j 0):aY (a:Int) (b:Int)=0:=by
 have:=M.CY B _ _ he;rw[M.gB hB,M.gB hB]at this;exact qL this

theorem dU (ao bo:Option Addr)(n m c d:Nat)(a b:Nat)(w:World)(hl:(L a).length=n)(hm:(L b).length=m)(hn:n<=4194304)(hn2:m<=4194304)(hr:Rd w ao (L a))(hr2:Rd w bo (L b)):
 Calls Tryz.prog 149 #[.slice ao n c,.slice bo m d] w fun e w'=>e=.returned (.int .i64 (aY a b))/\∃q,w'=w.drewN q:=by
 by_cases hnm:n=m
 . subst hnm;have hb:((n:Int) !=(n:Int))=false:=by simp
   have HM:=hid hm;clear hm;go_enter Tryz.func149,Tryz.ntmps149
   go_wp2
   go_loopw [5] (fun i wr=>∃k:Nat,k<=n/\i=.int .i64 ((k:Int)-1)/\(∀j,k<=j->(L a).getD j 0=(L b).getD j 0)/\∃q,wr=w.drewN q) (fun i _=>(intOf i+1).toNat)
   case atStart=>exact⟨n,Nat.le_refl _,rfl,fun j h=>by rw[iZ _ _ (by omega),iZ _ _ (by have:=HM.out;omega)],0,rfl⟩
   case round=>
    obtain⟨k,hk,rfl,he,hq⟩:=hrel;have HE:=hid he;clear he;have HQ:=hid hq;clear hq;have hr':Rd wr ao (L a):=by obtain⟨q,rfl⟩:=HQ.out;exact hr
    have hr2':Rd wr bo (L b):=by obtain⟨q,rfl⟩:=HQ.out;exact hr2
    by_cases hlt:0<k
    . obtain⟨b1,off,hao,hc⟩:=hr' (by omega);have hck:=hc (k-1) (by omega);have HC:=hid hc;clear hc;obtain⟨x,hxx⟩:∃x:Nat,x=(L a).getD (k-1) 0:=⟨_,rfl⟩;rw[<-hxx]at hck;have HX:=hid hxx;clear hxx;obtain⟨b2,off2,hao2,hc2⟩:=hr2' (by have:=HM.out;omega);have hck2:=hc2 (k-1) (by have:=HM.out;omega);have HC2:=hid hc2;clear hc2;obtain⟨y,hyy⟩:∃y:Nat,y=(L b).getD (k-1) 0:=⟨_,rfl⟩;rw[<-hyy]at hck2;have HY:=hid hyy;clear hyy;obtain⟨k,rfl⟩:∃k',k=k'+1:=⟨k-1,by omega⟩;simp only[Nat.add_sub_cancel]at hck hck2;have e1:(((k+1:Nat):Int)-1)=(k:Int):=by omega
      rw[e1];have hlt':(k:Int)<(n:Int):=by omega
      by_cases hxy:x=y
      . have hne:((x:Int) !=(y:Int))=false:=by simp[hxy]
        have HXY:=hid hxy;clear hxy
        go_wp2
        go_quiet(fail)
        go_wp2
        go_roundw
        case rel=>
         refine⟨k,by omega,by go_num,fun j hj=>?_,by obtain⟨q,rfl⟩:=HQ.out;exact⟨_,World.drewN_drewN _ _ _⟩⟩
         by_cases e:j=k
         . subst e;exact HX.out.symm.trans (HXY.out.trans HY.out)
         . exact HE.out j (by omega)
        case measure=>simp[intOf]
      . have hne:((x:Int) !=(y:Int))=true:=by simp;omega
        have HXY:=hid hxy;clear hxy
        go_wp2
        go_quiet(fail)
        go_wp2
        generalize hwy:wr.drewN nq=wy;have hq':∃q,wy=w.drewN q:=by obtain⟨q,rfl⟩:=HQ.out;exact⟨_,by rw[<-hwy];exact World.drewN_drewN _ _ _⟩
        have hcy:wy.cell? ⟨b1,off+k,none⟩=some (.int .u64 (x:Int)):=by rw[<-hwy];exact hck
        have hcy2:wy.cell? ⟨b2,off2+k,none⟩=some (.int .u64 (y:Int)):=by rw[<-hwy];exact hck2
        have HQ':=hid hq';clear hq' hwy hck hck2
        go_quiet((go_at_call 79;exact Calls.quiet_of_same (xG _ _ _)))
        go_wp2
        go_ret;refine⟨?_,by obtain⟨q,rfl⟩:=HQ'.out;exact⟨_,World.drewN_drewN _ _ _⟩⟩
        exact cG (BQ (by omega) a b k x y HX.out HY.out HXY.out (fun j hj=>HE.out j (by omega)))
    . have:k=0:=by omega
      subst this
      go_wp2
      go_ret
      exact⟨cG (CX (by omega) a b (fun j=>HE.out j (by omega))).symm,HQ.out⟩
 . have hb:((n:Int) !=(m:Int))=true:=by simp;omega
   go_enter Tryz.func149,Tryz.ntmps149
   go_wp2_with (go_at_call 170;refine(zU _ _ _).mono ?_;rintro e w' ⟨rfl,rfl⟩)
   go_ret;refine⟨cG ?_,0,rfl⟩;rw[<-hl,<-hm];exact M9 a b (by omega)

theorem dM (ao bo:Option Addr)(n m c d:Nat)(a b:Nat)(w:World)(hl:(D a).length=n)(hm:(D b).length=m)(hn:n<=4194304)(hn2:m<=4194304)(hr:Rd w ao (D a))(hr2:Rd w bo (D b)):
 Calls Tryz.prog 59 #[.slice ao n c,.slice bo m d] w fun e w'=>e=.returned (.int .i64 (aY a b))/\w'=w:=by
 obtain⟨mx,hmx⟩:∃mx:Nat,n<=mx/\m<=mx/\mx<=4194304/\(mx=n\/mx=m):=⟨max n m,by omega⟩;have hh:(n<m/\mx=m)\/(¬n<m/\mx=n):=by omega
 rcases hh with⟨hnm,rfl⟩|⟨hnm,rfl⟩
 all_goals
  go_enter Tryz.func59,Tryz.ntmps59;go_wp2_with fail
  go_loop [6] (fun i=>∃k:Nat,k<=mx/\i=.int .i64 ((k:Int)-1)/\(∀j,k<=j->(D a).getD j 0=(D b).getD j 0)) (fun i=>(intOf i+1).toNat)
  case atStart=>exact⟨mx,Nat.le_refl _,rfl,fun j h=>by rw[iZ _ _ (by omega),iZ _ _ (by omega)]⟩
  case round=>
   obtain⟨k,hk,rfl,he⟩:=hrel;have HE:=hid he;clear he
   by_cases hlt:0<k
   . obtain⟨k,rfl⟩:∃k',k=k'+1:=⟨k-1,by omega⟩;have e1:(((k+1:Nat):Int)-1)=(k:Int):=by omega
     rw[e1];obtain⟨x,hxx⟩:∃x:Nat,x=(D a).getD k 0:=⟨_,rfl⟩;obtain⟨y,hyy⟩:∃y:Nat,y=(D b).getD k 0:=⟨_,rfl⟩;have HX:=hid hxx;clear hxx;have HY:=hid hyy;clear hyy;go_wp2_with fail;refine(cO ao _ c k (D a) _ hl (by omega) (by omega) hr x HX.out).mono ?_;rintro e w1 ⟨rfl,rfl⟩;go_wp2_with fail;refine(cO bo _ d k (D b) _ hm (by omega) (by omega) hr2 y HY.out).mono ?_;rintro e w2 ⟨rfl,rfl⟩
     by_cases h1:x<y
     . go_wp2_with fail;go_ret
       have:=BQ (B:=4294967296) (by omega) a b k x y HX.out HY.out (by omega) (fun j hj=>HE.out j (by omega))
       exact⟨cG (by rw[<-this,fH h1]),rfl⟩
     . go_wp2_with fail;refine(cO ao _ c k (D a) _ hl (by omega) (by omega) hr x HX.out).mono ?_;rintro e w1 ⟨rfl,rfl⟩;go_wp2_with fail;refine(cO bo _ d k (D b) _ hm (by omega) (by omega) hr2 y HY.out).mono ?_;rintro e w2 ⟨rfl,rfl⟩
       by_cases h2:y<x
       . go_wp2_with fail;go_ret
         have:=BQ (B:=4294967296) (by omega) a b k x y HX.out HY.out (by omega) (fun j hj=>HE.out j (by omega))
         exact⟨cG (by rw[<-this,fD h2]),rfl⟩
       . go_wp2_with fail
         go_round
         case rel=>
          refine⟨k,by omega,by go_num,fun j hj=>?_⟩
          by_cases e:j=k
          . subst e;rw[<-HX.out,<-HY.out];omega
          . exact HE.out j (by omega)
         case measure=>simp[intOf]
   . have:k=0:=by omega
     subst this;go_wp2_with fail;go_ret
     exact⟨cG (CX (by omega) a b (fun j=>HE.out j (by omega))).symm,rfl⟩

theorem oM (ao:Option Addr)(n cap:Nat)(xs:List Nat)(w:World)(hl:xs.length=n)(hn:n<=1048576)(hx:F64 xs)(hr:Rd w ao xs):
 Calls Tryz.prog 40 #[.slice ao n cap] w fun e w'=>∃ao' cap',e=.returned (.slice ao' (D (V xs)).length cap')/\w'.ownsRow w.heap.size 25 1 (.slice ao' (D (V xs)).length cap') (D (V xs)).length (U (D (V xs)))/\Below w.heap.size w w':=by
 obtain⟨i0,hi,hz0,hz1,hz2⟩:=info_parts Tryz.infoU;go_enter Tryz.func40,Tryz.ntmps40
 go_wp2
 go_loopw [3,8] (fun v i wr=>∃k:Nat,k<=n/\i=.int .i64 k/\wr.ownsRow w.heap.size 25 1 v (2*k) (U (M.eZ (xs.take k)))/\Below w.heap.size w wr) (fun _ i _=>n-(intOf i).toNat)
 case atStart=>exact⟨0,Nat.zero_le _,rfl,World.ownsRow_nil _ _ _ _,Below.refl _ _⟩
 case round=>
  obtain⟨k,hk,rfl,hown,hbl⟩:=hrel
  by_cases hlt:k<n
  . obtain⟨b,off,hao,hc⟩:=(hr.below hbl) (by omega);have hck:=hc k (by omega);clear hc;have hx1:=hx.get k;obtain⟨x,hxx⟩:∃x:Nat,x=xs.getD k 0:=⟨_,rfl⟩;rw[<-hxx]at hck hx1;have HX:=hid hxx;clear hxx
    have hlow:bits BinOp.and IntKind.u64 (x:Int) 4294967295=((x%4294967296:Nat):Int):=by
     rw[and_low32 _ (by omega) (by omega)];omega
    have hhi:(x:Int)/4294967296=((x/4294967296:Nat):Int):=by omega
    have HHI:=hid hhi;clear hhi
    go_wp2_with (at_builtin;refine wpList_append_own _ rfl _ _ 56 rfl w.heap.size 25 i0 (.int .u64 0) 1 8 Tryz.underlying56 hi hz0 hz1 hz2 rfl (by decide) _ _ _ rfl (hown.alloc _) ⟨wr.heap.size,0,none⟩ 2 2 (U [x%4294967296,x/4294967296]) rfl rfl ?c1 ?c2 ?c3 ?c4 ?c5 ?_)
    case c1=>
     intro j u hj
     match j,hj with
     |0,hj=>simp[U]at hj;subst hj;simp[Addr.add]
     |1,hj=>simp[U]at hj;subst hj;simp[Addr.add]
    case c2=>exact i7 _
    case c3=>unfold maxLen;omega
    case c4=>omega
    case c5=>have:=hbl.size;simp;omega
    intro v' w1 hown' hgrow hnn;clear hnn
    have hb1:Below w.heap.size w w1:=(hbl.alloc hbl.size _).grown hgrow (by have:=hbl.size;simp;omega) (fun k' hk'=>(hown.lt k' hk').1)
    clear hown hgrow hck hlow
    go_wp2
    go_roundw
    case rel=>
     have R:∃k1:Nat,k1<=n/\Value.int .i64 ((k:Int)+1)=.int .i64 (k1:Int)/\w1.ownsRow w.heap.size 25 1 v' (2*k1) (U (M.eZ (xs.take k1)))/\Below w.heap.size w w1:=by
      refine⟨k+1,by omega,by go_num,?_,hb1⟩;rw[M.mJ xs k (by omega),M.tM,dH,<-HX.out];exact hown'
     first|exact R|((repeat apply Exists.intro);exact⟨R,by rw[hao]⟩)
    case measure=>simp[intOf];omega
  . have e:k=n:=by omega
    subst e;rw[List.take_of_length_le (by omega)]at hown;have hv:=fF hown;obtain⟨ao1,cap1,hv⟩:=hv;rw[hv];rw[hv]at hown;go_wp2_with fail;have hrd:=Rd.own hown;refine(bZ 4294967296 (by omega) ao1 _ cap1 (M.eZ xs) _ (by rw[M.tP];omega) (bF hown) (by omega) (M.FJ xs hx) hrd).mono ?_;rw[M.AX];rintro e w1 ⟨ao',cap',rfl,ho,hb⟩;go_wp2_with fail;go_ret;exact⟨ao',cap',rfl,aM ho hbl.size,hbl.trans (hb.mono hbl.size)⟩

end Go.Proofs.YtfdgkleoaehjaaaGreatDoor
