import Derived.Test.YtfdgkleoaehjaaaGreatDoorfGAS
import Derived.Test.YtfdgkleoaehjaaaGreatDoorfChk
namespace Go.Proofs.YtfdgkleoaehjaaaGreatDoor
open Go.RowKit
set_option linter.unusedVariables false
set_option maxRecDepth 100000

def pvs (bs:List Nat)(pre:List Nat):Nat:=pre.foldl (fun v k=>v*10^chn bs.length k+M.dec (M.seg bs (19*k) (chn bs.length k))) 0

theorem sD (bs pre:List Nat)(k:Nat):pvs bs (pre++[k])=pvs bs pre*10^chn bs.length k+M.dec (M.seg bs (19*k) (chn bs.length k)):=by simp[pvs]

theorem nC (bs:List Nat)(hd:M.Dig bs)(i m:Nat):M.dec (M.seg bs i m)<10^m:=by
 have h:=M.iU _ (hd.seg i m);exact Nat.lt_of_lt_of_le h (Nat.pow_le_pow_right (by omega) (by simp[M.seg];omega))

theorem IM {a m d K:Nat}(ha:a<10^K)(hd:d<10^m)(hm:m<=19):a*10^m+d<10^(K+19):=by
 have h1:(a+1)*10^m<=10^K*10^m:=Nat.mul_le_mul_right _ ha;have h2:10^K*10^m<=10^(K+19):=by rw[<-Nat.pow_add];exact Nat.pow_le_pow_right (by omega) (by omega)
 rw[Nat.add_mul,Nat.one_mul]at h1;omega

theorem IG (bs:List Nat)(hd:M.Dig bs)(pre:List Nat):pvs bs pre<10^(19*pre.length):=by
 have key:∀(j:Nat)(pre:List Nat),pre.length=j->pvs bs pre<10^(19*j):=by
  intro j
  induction j with
  |zero=>
   intro pre hp;rw[List.eq_nil_of_length_eq_zero hp]
   simp[pvs]
  |succ j ih=>
   intro pre hp;have hne:pre≠[]:=by intro e;rw[e]at hp;simp at hp
   rw[<-List.dropLast_concat_getLast hne,sD,Nat.mul_add];exact IM (ih _ (by rw[List.length_dropLast];omega)) (nC bs hd _ _) (by unfold chn;omega)
 exact key _ pre rfl

theorem GO (bs:List Nat)(j:Nat)(hj:19*j<bs.length+19):pvs bs (List.range j)=M.dec (bs.take (19*j)):=by
 induction j with
 |zero=>simp[pvs,M.dec]
 |succ j ih=>
  rw[List.range_succ,sD,ih (by omega)];have e:chn bs.length j=min 19 (bs.length-19*j):=rfl;rw[<-M.nX bs (19*j) (chn bs.length j) (by omega)];rcases Nat.le_total (19*(j+1)) bs.length with h|h
  . rw[show 19*j+chn bs.length j=19*(j+1) by omega]
  . rw[List.take_of_length_le (by omega),List.take_of_length_le h]

theorem MK (bs:List Nat):pvs bs (List.range ((bs.length+18)/19))=M.dec bs:=by
 rw[GO bs _ (by omega),List.take_of_length_le (by omega)]

theorem CQ (v K:Nat)(h:v<10^(19*K)):(L v).length<=K:=by
 refine M.len_of_lt (B:=18446744073709551616) (by omega) _ _ (Nat.lt_of_lt_of_le h ?_);rw[Nat.pow_mul];exact Nat.pow_le_pow_left (by omega) _

theorem AS (v f ex c:Nat)(cur:List Nat)(hlen:cur.length=(L v).length)(hF:F64 cur)(hc:c<18446744073709551616)(hf:0<f)
 (h:V cur+c*18446744073709551616^(L v).length=f*v+ex):(c=0->cur=L (f*v+ex))/\(c≠0->cur++[c]=L (f*v+ex)):=by
 refine⟨fun e=>?_,fun e=>?_⟩
 . subst e;rw[Nat.zero_mul,Nat.add_zero]at h;rw[<-h];refine M.AG (by omega) cur hF ?_;rcases Nat.eq_zero_or_pos cur.length with h0|h0
   . exact .inl (List.eq_nil_of_length_eq_zero h0)
   . right
     intro hz
     have hv:0<v:=by
      rcases Nat.eq_zero_or_pos v with e|e
      . subst e;rw[hlen]at h0;simp[L,M.aH]at h0
      . exact e
     have h1:=M.oZ (B:=18446744073709551616) (by omega) v hv;have h2:v<=f*v:=Nat.le_mul_of_pos_left v hf;have h3:=M.aJ 18446744073709551616 cur (cur.length-1);rw[show cur.length-1+1=cur.length by omega,List.take_length,hz,Nat.mul_zero,Nat.add_zero]at h3
     have h4:=M.gJ (B:=18446744073709551616) (by omega) (cur.take (cur.length-1)) (fun x hx=>hF x (List.mem_of_mem_take hx))
     rw[<-h3,List.length_take,Nat.min_eq_left (by omega),hlen]at h4;have h5:V cur=M.val 18446744073709551616 cur:=rfl;have h6:(M.dig 18446744073709551616 v).length=(L v).length:=rfl;rw[h6]at h1;omega
 . have hv:V (cur++[c])=f*v+ex:=by
    rw[<-h,<-hlen]
    show M.val _ _=_
    rw[M.iA,Nat.mul_comm c]
    rfl
   rw[<-hv];refine M.AG (by omega) (cur++[c]) ?_ (.inr ?_)
   . intro x hx;rcases List.mem_append.1 hx with hx|hx
     . exact hF x hx
     . simp at hx;omega
   . simp[List.getD_eq_getElem?_getD,e]

theorem wN {a b:World}{base e n:Nat}{v:Value}{xs:List Value}{row:Option Nat}(h:a.ownsRow base e 1 v n xs)(hg:a.grownBy b row)(hr:∀r,row=some r->∃o:Obj,a.heap[r]? =some o/\o.isCells=false):b.ownsRow base e 1 v n xs:=by
 refine⟨h.1,?_⟩;rcases h.2 with h'|⟨g,cap',cur,e1,hb,hh,r⟩
 . exact .inl h'
 . refine .inr ⟨g,cap',cur,e1,hb,?_,r⟩;refine(hg.block g (Array.getElem?_eq_some_iff.1 hh).1 ?_).trans hh;intro e2;obtain⟨o,ho,hc⟩:=hr g e2.symm;rw[hh]at ho;injection ho with ho;rw[<-ho]at hc
   simp[Obj.isCells]at hc

end Go.Proofs.YtfdgkleoaehjaaaGreatDoor
