import Derived.Laws.BytesArg
import Derived.Laws.AppendOwnNone
import Derived.Lib.AppendStr
import Derived.Test.YtfdgkleoaehjaaaGreatDoorfGAN
set_option maxHeartbeats 1000000
namespace Go.Proofs.YtfdgkleoaehjaaaGreatDoor.M
set_option linter.unusedVariables false
set_option maxRecDepth 100000

def JH:Dec⊕Nat->Option Dec
 | .inl d=>some d
 | .inr _=>none

abbrev s0 (n:Bool):Sn:=⟨n,[],0,false,0⟩

theorem QT (st:Nat):next st 4=0\/next st 4=7:=by unfold next;split<;>first|omega|exact .inl rfl|exact .inr rfl

theorem QN (st:Nat):next st 5=0\/next st 5=10:=by unfold next;split<;>first|omega|exact .inl rfl|exact .inr rfl

theorem NR (st:Nat):next st 0=0:=by unfold next;split<;>first|omega|rfl

theorem MJ (st so:Nat)(h:3<=st):next st so=0\/(3<=next st so/\next st so≠10):=by unfold next;split<;>omega

theorem DM (st so:Nat):next st so<=10:=by unfold next;split<;>omega

theorem M7 {c:Nat}(h:low c≠c):aF c=0\/aF c=4\/aF c=5:=by
 have hl:65<=c/\c<=90:=by
  unfold low at h
  by_cases k:65<=c/\c<=90
  . exact k
  . rw[if_neg k]at h;exact absurd rfl h
 have e:low c=c+32:=by unfold low;rw[if_pos hl]
 unfold aF;rw[e,if_neg (by omega),if_neg (by omega),if_neg (by omega)];split
 . exact .inr (.inl rfl)
 . split
   . exact .inr (.inr rfl)
   . exact .inl rfl

theorem JP (st c:Nat)(s:Sn):take (next st (aF c)) (low c) s=take (next st (aF c)) c s:=by
 by_cases h:low c=c
 . rw[h]
 . rcases M7 h with k|k|k
   . rw[k,NR];rfl
   . rw[k]
     rcases QT st with e|e<;>rw[e]<;>rfl
   . rw[k]
     rcases QN st with e|e<;>rw[e]<;>rfl

theorem KZ (t:List Nat):∀(o st:Nat)(s:Sn),aR (t.map low) o st s=aR t o st s:=by
 induction t with
 |nil=>intro o st s;rfl
 |cons c r ih=>intro o st s;rw[List.map_cons,aR,aR,gG,JP,ih]

theorem L6 (t:List Nat):Low (t.map low):=by
 intro c hc;obtain⟨x,_,rfl⟩:=List.mem_map.1 hc;exact gA x

theorem AJ {v:List Nat}(h:Low v):v.map low=v:=by
 induction v with
 |nil=>rfl
 |cons c r ih=>rw[List.map_cons,h.head,ih h.tail]

theorem AO (v:List Nat):∀(o st:Nat)(s:Sn),3<=st->∀b n,aR v o st s≠.word b n:=by
 induction v with
 |nil=>intro o st s _ b n h;cases h
 |cons c r ih=>
  intro o st s hst b n h;rw[aR]at h;rcases MJ st (aF c) hst with k|k
  . rw[if_pos k]at h;cases h
  . rw[if_neg (by omega),if_neg k.2]at h;exact ih _ _ _ k.1 b n h

theorem PB {out:Out}(T:List Nat)(h:∀b n,out≠.word b n):JH (out.scan T)=out.acc.map Sn.dec:=by
 cases out with
 |stuck o=>rfl
 |word b n=>exact absurd rfl (h b n)
 |fin st s=>simp only[Out.scan,Out.acc];split<;>rfl

theorem uY (n:Bool)(c:Nat)(r:List Nat)(h:c=105\/c=110):yA n (c::r)=none:=by
 unfold yA;rw[bL r (show c≠101 by omega)];simp only;rw[bL _ (show c≠46 by omega),if_pos (.inl (by rw[List.all_cons,A8 c (by omega),Bool.false_and]))]

theorem QG {c:Nat}(h:low c=105\/low c=110):aF c=5:=by
 rw[<-gG];have:=aQ (low c) (gA c);omega

theorem AV {c:Nat}(h:aF c=5):low c=105\/low c=110:=by
 rw[<-gG]at h;have:=aQ (low c) (gA c);omega

theorem KT {c:Nat}(h:aF c=2):low c=43\/low c=45:=by
 rw[<-gG]at h;have:=aQ (low c) (gA c);omega

theorem C6 (v:List Nat)(hv:Low v)(o st:Nat)(n:Bool)(hst:st=1\/st=2)(hs:st=1->∀c r,v=c::r->¬(c=43\/c=45))(T:List Nat)(hT:(T.drop o).map low=v):
 JH ((aR v o st (s0 n)).scan T)=mU n v:=by
 by_cases hw:∃c r,v=c::r/\(c=105\/c=110)
 . obtain⟨c,r,rfl,hc⟩:=hw;have h5:aF c=5:=QG (by rw[hv.head];exact hc)
   rw[aR,h5,show next st 5=10 by rcases hst with rfl|rfl<;>rfl,if_neg (by decide),if_pos rfl]
   show JH (dK (T.drop o) o n)=_
   unfold dK mU;rw[hT]
   by_cases k1:c::r=fZ
   . rw[if_pos k1,if_pos (.inl k1)];rfl
   . rw[if_neg k1]
     by_cases k2:c::r=aG
     . rw[if_pos k2,if_pos (.inr k2)];rfl
     . rw[if_neg k2,if_neg (not_or.2 ⟨k1,k2⟩)]
       by_cases k3:c::r=gK
       . rw[if_pos k3,if_pos k3];rfl
       . rw[if_neg k3,if_neg k3,uY n c r hc];rfl
 . have hw':∀c r,v=c::r->¬(c=105\/c=110):=fun c r e k=>hw ⟨c,r,e,k⟩
   have nw:∀b m,aR v o st (s0 n)≠.word b m:=by
    cases v with
    |nil=>intro b m h;cases h
    |cons c r=>
     intro b m h;rw[aR]at h
     have hn5:aF c≠5:=fun h5=>by have:=AV h5;rw[hv.head]at this;exact hw' c r rfl this
     by_cases k:next st (aF c)=0
     . rw[if_pos k]at h;cases h
     . rw[if_neg k]at h
       have h10:next st (aF c)≠10:=by
        have:=aQ c hv.head
        rcases hst with rfl|rfl<;>rcases this with e|e|e|e|e|e<;>first|(rw[e.1];decide)|exact absurd e.1 hn5
       rw[if_neg h10]at h
       by_cases k2:aF c=2
       . rcases hst with rfl|rfl
         . have:=KT k2;rw[hv.head]at this;exact hs rfl c r rfl this
         . rw[k2]at k;exact k rfl
       . refine AO r _ _ _ ?_ b m h;have:=aQ c hv.head
         rcases hst with rfl|rfl<;>rcases this with e|e|e|e|e|e<;>first|(rw[e.1];decide)|exact absurd e.1 hn5|exact absurd e.1 k2|(rw[e.1]at k;exact absurd rfl k)
   rw[PB T nw,RQ v hv o st hst (s0 n) rfl rfl hs hw']
   have w1:v≠fZ:=fun e=>hw' _ _ e (by decide)
   have w2:v≠aG:=fun e=>hw' _ _ e (by decide)
   have w3:v≠gK:=fun e=>hw' _ _ e (by decide)
   unfold mU yA;rw[if_neg (not_or.2 ⟨w1,w2⟩),if_neg w3]
   by_cases k:(cut 46 (cut 101 v).1).1.length+(cut 46 (cut 101 v).1).2.1.length=0
   . rw[if_pos k,if_pos (.inr (.inr k))];rfl
   . rw[if_neg k];unfold gO
     by_cases k2:(cut 46 (cut 101 v).1).1.all dgt=false\/(cut 46 (cut 101 v).1).2.1.all dgt=false
     . rw[if_pos k2,if_pos (by rcases k2 with a|a;exact .inl a;exact .inr (.inl a))];rfl
     . rw[if_neg k2,if_neg (by intro x;rcases x with a|a|a;exact k2 (.inl a);exact k2 (.inr a);exact k a),Option.map_map]
       refine congrArg (fun f=>Option.map f (nN (cut 101 v))) (funext fun x=>?_)
       simp[Sn.dec]

theorem vT (t:List Nat):JH (iP t)=whole t:=by
 unfold iP whole;rw[<-KZ];have hl:=L6 t
 cases t with
 |nil=>rfl
 |cons y r=>
  rw[List.map_cons]at hl|-
  by_cases h:low y=43\/low y=45
  . have h2:aF (low y)=2:=by have:=aQ (low y) (gA y);omega
    rw[jL _ h,step (st':=2) _ _ _ (by rw[h2];rfl) (by decide) (by decide)]
    exact C6 (r.map low) hl.tail 1 2 (decide (low y=45)) (.inr rfl) (fun e=>by cases e) (y::r) rfl
  . rw[gV _ h]
    exact C6 (low y::r.map low) hl 0 1 false (.inl rfl) (fun _ c r' e=>by cases e;exact h) (y::r) rfl

theorem sR (t:List Nat)(k:Nat)(h0:k=0\/eT (t.take k)=true):∀N,k<=N->(∀n,k<n->n<=N->eT (t.take n)=false)->jA t N=k:=by
 intro N
 induction N with
 |zero=>intro h1 _;rw[jA];omega
 |succ N ih=>
  intro h1 h2;rw[jA]
  by_cases e:k=N+1
  . subst e;rcases h0 with h0|h0
    . omega
    . rw[if_pos h0]
  . rw[if_neg (by rw[h2 (N+1) (by omega) (Nat.le_refl _)];decide)]
    exact ih (by omega) fun n a b=>h2 n a (by omega)

theorem iC (t:List Nat):eT t=true↔∃e∈nG,∃d,whole (t++e)=some d:=by
 unfold eT;rw[List.any_eq_true]
 constructor
 . rintro⟨e,he,h⟩;exact⟨e,he,Option.isSome_iff_exists.1 h⟩
 . rintro⟨e,he,h⟩;exact⟨e,he,Option.isSome_iff_exists.2 h⟩

theorem yP (u:List Nat):∀(v:List Nat)(o st:Nat)(s:Sn)(st':Nat)(s':Sn),aR u o st s=.fin st' s'->aR (u++v) o st s=aR v (o+u.length) st' s':=by
 induction u with
 |nil=>intro v o st s st' s' h;cases h;rfl
 |cons c r ih=>
  intro v o st s st' s' h;rw[aR]at h;rw[List.cons_append,aR]
  by_cases k:next st (aF c)=0
  . rw[if_pos k]at h;cases h
  . rw[if_neg k]at h|-
    by_cases k2:next st (aF c)=10
    . rw[if_pos k2]at h;cases h
    . rw[if_neg k2]at h|-;rw[ih v _ _ _ _ _ h,List.length_cons]
      congr 1;omega

theorem EF (u:List Nat):∀(o st:Nat)(s:Sn)(st':Nat)(s':Sn),aR u o st s=.fin st' s'->1<=st/\st<=9->1<=st'/\st'<=9:=by
 induction u with
 |nil=>intro o st s st' s' h hs;cases h;exact hs
 |cons c r ih=>
  intro o st s st' s' h hs;rw[aR]at h
  by_cases k:next st (aF c)=0
  . rw[if_pos k]at h;cases h
  . rw[if_neg k]at h
    by_cases k2:next st (aF c)=10
    . rw[if_pos k2]at h;cases h
    . rw[if_neg k2]at h;have:=DM st (aF c);exact ih _ _ _ _ _ h ⟨by omega,by omega⟩

theorem KO (t:List Nat):∀(o st:Nat)(s:Sn)(k:Nat),aR t o st s=.stuck k->o<=k/\k<o+t.length/\(∃st' s',aR (t.take (k-o)) o st s=.fin st' s')/\∀t',t'.take (k-o+1)=t.take (k-o+1)->aR t' o st s=.stuck k:=by
 induction t with
 |nil=>intro o st s k h;cases h
 |cons c r ih=>
  intro o st s k h;rw[aR]at h
  by_cases e:next st (aF c)=0
  . rw[if_pos e]at h;cases h
    refine⟨Nat.le_refl _,by simp,?_,fun t' ht=>?_⟩
    . rw[Nat.sub_self];exact⟨st,s,rfl⟩
    . rw[Nat.sub_self]at ht
      cases t' with
      |nil=>simp at ht
      |cons x y=>
       simp at ht
       rw[ht,aR,if_pos e]
  . rw[if_neg e]at h
    by_cases e2:next st (aF c)=10
    . rw[if_pos e2]at h;cases h
    . rw[if_neg e2]at h;obtain⟨a1,a2,⟨st',s',a3⟩,a4⟩:=ih _ _ _ _ h;have ek:k-o=(k-(o+1))+1:=by omega
      refine⟨by omega,by rw[List.length_cons];omega,⟨st',s',?_⟩,fun t' ht=>?_⟩
      . rw[ek,List.take_succ_cons,aR,if_neg e,if_neg e2];exact a3
      . cases t' with
        |nil=>simp at ht
        |cons x y=>
         rw[ek]at ht;simp only[List.take_succ_cons,List.cons.injEq]at ht;obtain⟨rfl,ht⟩:=ht;rw[aR,if_neg e,if_neg e2];exact a4 y (by simpa using ht)

theorem PD (st:Nat)(h:1<=st/\st<=9)(o:Nat)(s:Sn):∃e∈nG,∃st' s',aR e o st s=.fin st' s'/\A7 st'=true:=by
 rcases(show st=1\/st=2\/st=3\/st=4\/st=5\/st=6\/st=7\/st=8\/st=9 by omega)with rfl|rfl|rfl|rfl|rfl|rfl|rfl|rfl|rfl
 . exact⟨[48],by decide,3,_,rfl,rfl⟩
 . exact⟨[48],by decide,3,_,rfl,rfl⟩
 . exact⟨[],by decide,3,_,rfl,rfl⟩
 . exact⟨[48],by decide,6,_,rfl,rfl⟩
 . exact⟨[],by decide,5,_,rfl,rfl⟩
 . exact⟨[],by decide,6,_,rfl,rfl⟩
 . exact⟨[48],by decide,9,_,rfl,rfl⟩
 . exact⟨[48],by decide,9,_,rfl,rfl⟩
 . exact⟨[],by decide,9,_,rfl,rfl⟩

theorem mQ (u:List Nat)(st':Nat)(s':Sn)(h:aR u 0 1 (s0 false)=.fin st' s'):eT u=true:=by
 have hst:=EF u _ _ _ _ _ h ⟨by omega,by omega⟩;obtain⟨e,he,st2,s2,hw,hg⟩:=PD st' hst (0+u.length) s';rw[iC];refine⟨e,he,s2.dec,?_⟩;rw[<-vT];unfold iP;rw[yP u e _ _ _ _ _ h,hw]
 simp[Out.scan,hg,JH]

theorem cK (v:List Nat):∀w,(v.take (aI v w)).map low=w.take (aI v w)/\aI v w<=v.length/\aI v w<=w.length:=by
 induction v with
 |nil=>intro w;simp[aI]
 |cons c r ih=>
  intro w
  cases w with
  |nil=>simp[aI]
  |cons x y=>
   rw[aI];split
   next h=>
    obtain⟨a,b,c'⟩:=ih y;rw[List.take_succ_cons,List.take_succ_cons,List.map_cons,a,h];exact⟨rfl,by simpa using b,by simpa using c'⟩
   next h=>simp

theorem pE (v:List Nat):∀(w:List Nat)(k:Nat),(v.take k).map low=w.take k->k<=v.length->k<=w.length->k<=aI v w:=by
 induction v with
 |nil=>intro w k _ h _;simp at h;omega
 |cons c r ih=>
  intro w k h h1 h2
  cases k with
  |zero=>omega
  |succ k=>
   cases w with
   |nil=>simp at h2
   |cons x y=>
    simp only[List.take_succ_cons,List.map_cons,List.cons.injEq]at h;rw[aI,if_pos h.1];have:=ih y k h.2 (by simpa using h1) (by simpa using h2);omega

theorem FW (n:Bool)(w:List Nat)(h:w=fZ\/w=aG\/w=gK):∃d,mU n w=some d:=by
 rcases h with rfl|rfl|rfl
 . exact⟨_,rfl⟩
 . exact⟨_,rfl⟩
 . exact⟨_,rfl⟩

theorem IY (w:List Nat)(m:Nat)(hm:m<=w.length)(h:w=fZ\/(w=aG/\3<m)\/w=gK):w.drop m∈nG:=by
 have h8:m<9:=by rcases h with rfl|⟨rfl,_⟩|rfl<;>simp[fZ,aG,gK]at hm<;>omega
 have key:∀m,m<9->fZ.drop m∈nG/\(3<m->aG.drop m∈nG)/\gK.drop m∈nG:=by decide
 rcases h with rfl|⟨rfl,h3⟩|rfl
 . exact(key m h8).1
 . exact(key m h8).2.1 h3
 . exact(key m h8).2.2

theorem zY (v:List Nat)(h:aI v aG<=3):aI v aG<=aI v fZ:=by
 have c:=cK v aG;refine pE v fZ _ ?_ c.2.1 h;rw[c.1];generalize aI v aG=k at h
 revert k
 decide

theorem wL {n:Bool}{c:Nat}{r:List Nat}{d:Dec}(hc:c=105\/c=110)(h:mU n (c::r)=some d):c::r=fZ\/c::r=aG\/c::r=gK:=by
 unfold mU at h
 by_cases k1:c::r=fZ\/c::r=aG
 . rcases k1 with k|k
   . exact .inl k
   . exact .inr (.inl k)
 . rw[if_neg k1]at h
   by_cases k2:c::r=gK
   . exact .inr (.inr k2)
   . rw[if_neg k2,uY n c r hc]at h;cases h

theorem MR (t:List Nat)(b:Nat)(n:Bool)(h:aR t 0 1 (s0 false)=.word b n):
 ∃sg c r,t=sg++c::r/\sg.length=b/\aF c=5/\(sg=[]\/ ∃x,sg=[x]/\(low x=43\/low x=45)):=by
 cases t with
 |nil=>cases h
 |cons x r=>
  rw[aR]at h
  by_cases k:next 1 (aF x)=0
  . rw[if_pos k]at h;cases h
  . rw[if_neg k]at h;have hc:=aQ (low x) (gA x);rw[gG]at hc
    by_cases k2:next 1 (aF x)=10
    . rw[if_pos k2]at h;cases h;refine⟨[],x,r,rfl,rfl,?_,.inl rfl⟩
      rcases hc with e|e|e|e|e|e<;>first|exact e.1|(rw[e.1]at k2;exact absurd k2 (by decide))
    . rw[if_neg k2]at h
      by_cases k3:aF x=2
      . rw[k3,show next 1 2=2 from rfl]at h
        cases r with
        |nil=>cases h
        |cons y r=>
         rw[aR]at h;have hy:=aQ (low y) (gA y);rw[gG]at hy
         by_cases j:next 2 (aF y)=0
         . rw[if_pos j]at h;cases h
         . rw[if_neg j]at h
           by_cases j2:next 2 (aF y)=10
           . rw[if_pos j2]at h;cases h;refine⟨[x],y,r,rfl,rfl,?_,.inr ⟨x,rfl,KT k3⟩⟩
             rcases hy with e|e|e|e|e|e<;>first|exact e.1|(rw[e.1]at j2;exact absurd j2 (by decide))
           . rw[if_neg j2]at h;refine absurd h (AO r _ _ _ ?_ b n)
             rcases hy with e|e|e|e|e|e<;>first|(rw[e.1];decide)|(rw[e.1]at j;exact absurd rfl j)|(rw[e.1]at j2;exact absurd rfl j2)
      . refine absurd h (AO r _ _ _ ?_ b n)
        rcases hc with e|e|e|e|e|e<;>first|(rw[e.1];decide)|(rw[e.1]at k;exact absurd rfl k)|(rw[e.1]at k2;exact absurd rfl k2)|exact absurd e.1 k3

theorem xZ (sg v:List Nat)(c:Nat)(r:List Nat)(hv:v.map low=c::r)(hc:c=105\/c=110)(hs:sg=[]\/ ∃x,sg=[x]/\(low x=43\/low x=45)):∃n,whole (sg++v)=mU n (v.map low):=by
 rcases hs with rfl|⟨x,rfl,hx⟩
 . refine⟨false,?_⟩;unfold whole;rw[List.nil_append,hv,gV r (by omega)]
 . refine⟨decide (low x=45),?_⟩;unfold whole;rw[List.singleton_append,List.map_cons,jL _ hx]

theorem CM {w:List Nat}(h:w=fZ\/w=aG\/w=gK):∃c r,w=c::r/\(c=105\/c=110):=by
 rcases h with rfl|rfl|rfl
 . exact⟨_,_,rfl,.inl rfl⟩
 . exact⟨_,_,rfl,.inl rfl⟩
 . exact⟨_,_,rfl,.inr rfl⟩

theorem wW (v:List Nat)(b:Nat)(n:Bool)(k:Nat)(h:dK v b n=.inr k):k=b+max (max (max 0 (aI v fZ)) (aI v aG)) (aI v gK):=by
 unfold dK at h;split at h
 . cases h
 . split at h
   . cases h
   . split at h
     . cases h
     . exact(Sum.inr.inj h).symm

theorem JU (t:List Nat)(b:Nat)(n:Bool)(h:aR t 0 1 (s0 false)=.word b n)(k:Nat)(hk:dK (t.drop b) b n=.inr k):
 k<=t.length/\eT (t.take k)=true/\∀m,k<m->m<=t.length->eT (t.take m)=false:=by
 obtain⟨sg,c,r,rfl,rfl,h5,hs⟩:=MR t b n h;rw[List.drop_left]at hk;have ek:=wW _ _ _ _ hk;have c1:=cK (c::r) fZ;have c2:=cK (c::r) aG;have c3:=cK (c::r) gK;have c4:=zY (c::r)
 obtain⟨w,hw',hm⟩:∃w,(w=fZ\/(w=aG/\3<aI (c::r) w)\/w=gK)/\k=sg.length+aI (c::r) w:=by
  by_cases a1:aI (c::r) aG<=aI (c::r) fZ/\aI (c::r) gK<=aI (c::r) fZ
  . exact⟨fZ,.inl rfl,by omega⟩
  . by_cases a2:aI (c::r) gK<=aI (c::r) aG
    . exact⟨aG,.inr (.inl ⟨rfl,by omega⟩),by omega⟩
    . exact⟨gK,.inr (.inr rfl),by omega⟩
 have hw:w=fZ\/w=aG\/w=gK:=by
  rcases hw' with a|a|a
  . exact .inl a
  . exact .inr (.inl a.1)
  . exact .inr (.inr a)
 have cw:=cK (c::r) w
 refine⟨by rw[List.length_append];omega,?_,fun m h1 h2=>?_⟩
 . rw[iC];refine⟨w.drop (aI (c::r) w),IY w _ cw.2.2 hw',?_⟩
   have e1:(sg++c::r).take k=sg++(c::r).take (aI (c::r) w):=by
    rw[hm,List.take_append];rw[List.take_of_length_le (by omega),Nat.add_sub_cancel_left]
   have e2:((c::r).take (aI (c::r) w)++w.drop (aI (c::r) w)).map low=w:=by
    have hl:Low w:=by rcases hw with rfl|rfl|rfl<;>(intro x hx;revert x;decide)
    have hd:(w.drop (aI (c::r) w)).map low=w.drop (aI (c::r) w):=AJ fun x hx=>hl x (List.mem_of_mem_drop hx)
    rw[List.map_append,cw.1,hd,List.take_append_drop]
   obtain⟨c',r',ew,hc'⟩:=CM hw;obtain⟨n',hn⟩:=xZ sg ((c::r).take (aI (c::r) w)++w.drop (aI (c::r) w)) c' r' (by rw[e2,ew]) hc' hs;rw[e1,List.append_assoc,hn,e2];exact FW n' w hw
 . cases hb:eT ((sg++c::r).take m)with
   |false=>rfl
   |true=>
    exfalso
    rw[iC]at hb;obtain⟨e,he,d,hd⟩:=hb;rw[List.length_append,List.length_cons]at h2;obtain⟨j,rfl⟩:∃j,m=sg.length+(j+1):=⟨m-sg.length-1,by omega⟩
    have e1:(sg++c::r).take (sg.length+(j+1))=sg++c::r.take j:=by
     rw[List.take_append,List.take_of_length_le (by omega),Nat.add_sub_cancel_left,List.take_succ_cons]
    rw[e1,List.append_assoc,List.cons_append]at hd;obtain⟨n',hn⟩:=xZ sg (c::(r.take j++e)) (low c) ((r.take j++e).map low) rfl (AV h5) hs;rw[hn,List.map_cons]at hd;have hq:=wL (AV h5) hd
    have key:∀w',low c::(r.take j++e).map low=w'->j+1<=aI (c::r) w':=by
     intro w' hw';refine pE (c::r) w' (j+1) ?_ (by rw[List.length_cons];omega) ?_
     . rw[<-hw'];simp only[List.take_succ_cons,List.map_cons,List.map_append];rw[List.take_left' (by rw[List.length_map,List.length_take];omega)]
     . rw[<-hw',List.length_cons,List.length_map,List.length_append,List.length_take];omega
    rcases hq with hq|hq|hq
    . have:=key _ hq;omega
    . have:=key _ hq;omega
    . have:=key _ hq;omega

theorem LY (t:List Nat):iP t=vG t:=by
 have hok:=vT t;unfold vG
 cases hI:iP t with
 |inl d=>rw[hI]at hok;rw[<-hok];rfl
 |inr k=>
  rw[hI]at hok;rw[<-hok]
  show Sum.inr k=Sum.inr (jA t t.length)
  congr 1
  unfold iP at hI
  cases hw:aR t 0 1 (s0 false)with
  |stuck o=>
   rw[hw]at hI;obtain rfl:=Sum.inr.inj hI;obtain⟨_,a2,⟨st',s',a3⟩,a4⟩:=KO t _ _ _ _ hw;rw[Nat.sub_zero]at a3 a4
   refine(sR t o (.inr (mQ _ _ _ a3)) t.length (by omega) fun n h1 h2=>?_).symm
   cases hb:eT (t.take n)with
   |false=>rfl
   |true=>
    exfalso
    rw[iC]at hb;obtain⟨e,he,d,hd⟩:=hb;rw[<-vT]at hd;unfold iP at hd;rw[a4 (t.take n++e) (by rw[List.take_append_of_le_length (by rw[List.length_take];omega),List.take_take,Nat.min_eq_left (by omega)])]at hd;cases hd
  |word b n=>
   rw[hw]at hI;obtain⟨a1,a2,a3⟩:=JU t b n hw k hI;exact(sR t k (.inr a2) t.length a1 a3).symm
  |fin st s=>
   rw[hw]at hI;simp only[Out.scan]at hI;split at hI
   . cases hI
   . obtain rfl:=Sum.inr.inj hI
     refine(sR t t.length (.inr ?_) t.length (Nat.le_refl _) fun n h1 h2=>by omega).symm
     rw[List.take_length];exact mQ t st s hw

end Go.Proofs.YtfdgkleoaehjaaaGreatDoor.M
namespace Go.Proofs.YtfdgkleoaehjaaaGreatDoor
open Go.RowKit
set_option linter.unusedVariables false
set_option maxRecDepth 100000

theorem qF (bs:List Nat)(k:Nat)(hk:k<bs.length)(h:bs.getD k 0<48\/57<bs.getD k 0):bs.all M.dgt=false:=by
 rw[List.all_eq_false];refine⟨bs.getD k 0,?_,?_⟩
 . rw[List.getD_eq_getElem?_getD,List.getElem?_eq_getElem hk];exact List.getElem_mem hk
 . rw[M.A8 _ h];decide

theorem gS (ao:Option Addr)(n c:Nat)(bs:List Nat)(w:World)(hl:bs.length=n)(hn:n<=20000)(hr:RdB w ao bs)(b:Bool)(hb:b=bs.all M.dgt):
 Calls Tryz.prog 72 #[.slice ao n c] w fun e w'=>e=.returned (.bool b)/\w'=w:=by
 have HB:=hid hb;clear hb;go_enter Tryz.func72,Tryz.ntmps72;go_wp2_with fail
 go_loopw [7] (fun i wr=>∃k:Nat,k<=n/\i=.int .i64 k/\(∀j,j<k->48<=bs.getD j 0/\bs.getD j 0<=57)/\wr=w) (fun i _=>n-(intOf i).toNat)
 case atStart=>exact⟨0,by omega,rfl,fun j hj=>by omega,rfl⟩
 case round=>
  obtain⟨k,hk,rfl,hd,hwr⟩:=hrel;subst hwr
  by_cases hlt:k<n
  . have hlt':(k:Int)<(n:Int):=by omega
    obtain⟨b2,o2,hbo,hc2⟩:=hr.2 (by omega);have hck:=hc2 k (by omega);clear hc2;obtain⟨cv,ecv⟩:∃x,x=bs.getD k 0:=⟨_,rfl⟩;rw[<-ecv]at hck;have ECV:=hid ecv;clear ecv;have HD:=hid hd;clear hd
    by_cases h1:cv<48
    . have h1':(cv:Int)<48:=by omega
      have hbf:b=false:=by rw[HB.out];exact qF bs k (by omega) (by rw[<-ECV.out];omega)
      have HBF:=hid hbf;clear hbf;go_wp2_with fail;go_ret;exact⟨by rw[HBF.out];rfl,rfl⟩
    . have h1':¬(cv:Int)<48:=by omega
      by_cases h2:57<cv
      . have h2':(57:Int)<(cv:Int):=by omega
        have hbf:b=false:=by rw[HB.out];exact qF bs k (by omega) (by rw[<-ECV.out];omega)
        have HBF:=hid hbf;clear hbf;go_wp2_with fail;go_ret;exact⟨by rw[HBF.out];rfl,rfl⟩
      . have h2':¬(57:Int)<(cv:Int):=by omega
        go_wp2_with fail;go_roundw
        case rel=>
         have hd2:∀j,j<k+1->48<=bs.getD j 0/\bs.getD j 0<=57:=by
          intro j hj
          by_cases e:j=k
          . rw[e,<-ECV.out];omega
          . exact HD.out j (by omega)
         first|exact⟨k+1,by omega,by go_num,hd2,by first|rfl|trivial⟩|((repeat apply Exists.intro);exact⟨⟨k+1,by omega,by go_num,hd2,by first|rfl|trivial⟩,by first|rfl|rw[hbo]⟩)
        case measure=>simp[intOf];omega
  . have e:k=n:=by omega
    have hbt:b=true:=by
     rw[HB.out,List.all_eq_true];intro c hc;obtain⟨i,hi,rfl⟩:=List.getElem_of_mem hc;have:=hd i (by omega);rw[List.getD_eq_getElem?_getD,List.getElem?_eq_getElem hi]at this
     simpa[M.dgt]using this
    have hlt':¬(k:Int)<(n:Int):=by omega
    have HBT:=hid hbt;clear hbt hd;go_wp2_with fail;go_ret;exact⟨by rw[HBT.out];rfl,rfl⟩

def RdV (w:World)(v:Value)(bs:List Nat):Prop:=∃a c,v=.slice a bs.length c/\bs.length<=c/\c<=9223372036854775807/\(a=none->c=0)/\RdB w a bs

theorem RdB.tail {w:World}{b off:Nat}{bs:List Nat}(h:RdB w (some ⟨b,off,none⟩) bs)(k:Nat):RdB w (some ⟨b,off+k,none⟩) (bs.drop k):=by
 refine⟨fun x hx=>h.1 x (List.mem_of_mem_drop hx),fun hp=>⟨b,off+k,rfl,fun i hi=>?_⟩⟩
 rw[List.length_drop]at hi;obtain⟨b',o',e,hc⟩:=h.2 (by omega);simp only[Option.some.injEq,Addr.mk.injEq,and_true]at e;obtain⟨rfl,rfl⟩:=e;have:=hc (k+i) (by omega);rw[Nat.add_assoc,this]
 simp[List.getD_eq_getElem?_getD,List.getElem?_drop]

theorem RdB.front {w:World}{a:Option Addr}{bs:List Nat}(h:RdB w a bs)(k:Nat):RdB w a (bs.take k):=by
 refine⟨fun x hx=>h.1 x (List.mem_of_mem_take hx),fun hp=>?_⟩
 rw[List.length_take]at hp;obtain⟨b,off,e,hc⟩:=h.2 (by omega)
 refine⟨b,off,e,fun i hi=>?_⟩
 rw[List.length_take]at hi;rw[hc i (by omega)]
 simp[List.getD_eq_getElem?_getD,show i<k by omega]

theorem RdB.view {w:World}{b off:Nat}{bs:List Nat}(h:RdB w (some ⟨b,off,none⟩) bs)(k c:Nat)(hk:k<=bs.length)(hc:bs.length<=c):RdB w (if c=k then some ⟨b,off,none⟩else some ⟨b,off+k,none⟩) (bs.drop k):=by
 split
 next e=>
  have:bs.drop k=[]:=List.drop_eq_nil_of_le (by omega);rw[this]
  exact⟨fun x hx=>by simp at hx,fun hp=>by simp at hp⟩
 next e=>exact h.tail k

theorem RdB.drewN {w:World}{a:Option Addr}{bs:List Nat}(h:RdB w a bs)(q:Nat):RdB (w.drewN q) a bs:=h.below (below_drewN (Below.refl _ _) q)

theorem nI (ao:Option Addr)(n c:Nat)(bs:List Nat)(w:World)(hl:bs.length=n)(hcap:n<=c)(hcm:c<=9223372036854775807)(hno:ao=none->c=0)(hr:RdB w ao bs):
 Calls Tryz.prog 68 #[.slice ao n c] w fun e w'=>∃v,e=.returned (.tuple #[v,.bool (M.signed bs).2])/\RdV w' v (M.signed bs).1/\Below w.heap.size w w':=by
 cases bs with
 |nil=>
  obtain rfl:n=0:=by simpa using hl.symm
  go_enter Tryz.func68,Tryz.ntmps68;go_wp2_with fail
  go_ret2
  exact⟨_,rfl,⟨ao,c,rfl,hcap,hcm,hno,hr⟩,Below.refl _ _⟩
 |cons x r=>
  have hn0:(0:Int)<(n:Int):=by rw[List.length_cons]at hl;omega
  obtain⟨b2,o2,hbo,hc2⟩:=hr.2 (by simp);have hck:=hc2 0 (by simp);have hx0:(x::r).getD 0 0=x:=rfl;rw[hx0,Nat.add_zero]at hck;subst hbo;have HR:=hid hr;have HL:=hid hl;clear hc2 hx0 hr hl
  by_cases h1:x=43
  . subst h1;go_enter Tryz.func68,Tryz.ntmps68;go_wp2_with fail
    go_quiet(fail)
    have k:=(HR.out.view 1 c (by simp) (by rw[HL.out];exact hcap)).drewN nq
    have kn:(if c=1 then some (⟨b2,o2,none⟩:Addr)else some ⟨b2,o2+1,none⟩)≠none:=by split<;>simp
    generalize(if c=1 then some (⟨b2,o2,none⟩:Addr)else some ⟨b2,o2+1,none⟩)=av at k kn|-;go_wp2_with fail
    go_ret2
    have hl:=HL.out;rw[List.length_cons]at hl
    exact⟨_,rfl,⟨av,c-1,by show Value.slice av (n-1) (c-1)=.slice av r.length (c-1);rw[show n-1=r.length by omega],by show r.length<=_;omega,by omega,fun h=>absurd h kn,k⟩,below_drewN (Below.refl _ _) _⟩
  . have h1':((x:Int)==43)=false:=by simp;omega
    by_cases h2:x=45
    . subst h2;go_enter Tryz.func68,Tryz.ntmps68;go_wp2_with fail
      go_quiet(fail)
      have k:=(HR.out.view 1 c (by simp) (by rw[HL.out];exact hcap)).drewN nq
      have kn:(if c=1 then some (⟨b2,o2,none⟩:Addr)else some ⟨b2,o2+1,none⟩)≠none:=by split<;>simp
      generalize(if c=1 then some (⟨b2,o2,none⟩:Addr)else some ⟨b2,o2+1,none⟩)=av at k kn|-;go_wp2_with fail
      go_ret2
      have hl:=HL.out;rw[List.length_cons]at hl
      exact⟨_,rfl,⟨av,c-1,by show Value.slice av (n-1) (c-1)=.slice av r.length (c-1);rw[show n-1=r.length by omega],by show r.length<=_;omega,by omega,fun h=>absurd h kn,k⟩,below_drewN (Below.refl _ _) _⟩
    . have h2':((x:Int)==45)=false:=by simp;omega
      go_enter Tryz.func68,Tryz.ntmps68;go_wp2_with fail
      go_ret2
      rw[M.gV r (by omega)];exact⟨_,rfl,⟨_,c,by rw[HL.out];rfl,by rw[HL.out];exact hcap,hcm,hno,HR.out⟩,Below.refl _ _⟩

theorem LM (k:Nat)(bs:List Nat)(h:∀j,j<bs.length->bs.getD j 0≠k):M.cut k bs=(bs,[],false):=by
 induction bs with
 |nil=>rfl
 |cons c r ih=>
  rw[M.bL r (by simpa using h 0 (by simp)),ih fun j hj=>by simpa using h (j+1) (by simp;omega)]

theorem LS (k:Nat)(bs:List Nat)(i:Nat)(hi:i<bs.length)(h:∀j,j<i->bs.getD j 0≠k)(hk:bs.getD i 0=k):M.cut k bs=(bs.take i,bs.drop (i+1),true):=by
 induction bs generalizing i with
 |nil=>simp at hi
 |cons c r ih=>
  cases i with
  |zero=>
   have:c=k:=by simpa using hk
   subst this;rw[M.nD];simp
  |succ i=>rw[M.bL r (by simpa using h 0 (by omega)),ih i (by simpa using hi) (fun j hj=>by simpa using h (j+1) (by omega)) (by simpa using hk)];simp

theorem uS (ao:Option Addr)(n c k:Nat)(bs:List Nat)(w:World)(hl:bs.length=n)(hn:n<=20000)(hcap:n<=c)(hcm:c<=9223372036854775807)(hno:ao=none->c=0)(hk:k<256)(hr:RdB w ao bs):
 Calls Tryz.prog 71 #[.slice ao n c,.int .u8 (k:Int)] w fun e w'=>∃v u,e=.returned (.tuple #[v,u,.bool (M.cut k bs).2.2])/\RdV w' v (M.cut k bs).1/\RdV w' u (M.cut k bs).2.1/\Below w.heap.size w w':=by
 go_enter Tryz.func71,Tryz.ntmps71;go_wp2_with fail
 go_loopw [7] (fun i wr=>∃j:Nat,j<=n/\i=.int .i64 j/\(∀j',j'<j->bs.getD j' 0≠k)/\wr=w) (fun i _=>n-(intOf i).toNat)
 case atStart=>exact⟨0,by omega,rfl,fun j hj=>by omega,rfl⟩
 case round=>
  obtain⟨i,hi,rfl,hd,hwr⟩:=hrel;subst hwr;have HD:=hid hd;clear hd
  by_cases hlt:i<n
  . have hlt':(i:Int)<(n:Int):=by omega
    obtain⟨b2,o2,hbo,hc2⟩:=hr.2 (by omega);have hck:=hc2 i (by omega);clear hc2;subst hbo
    by_cases h1:bs.getD i 0=k
    . rw[h1]at hck;have HR:=hid hr;clear hr;go_wp2_with fail
      go_quiet(fail)
      have k2:=(HR.out.view (i+1) c (by omega) (by omega)).drewN nq
      have kn:(if c=i+1 then some (⟨b2,o2,none⟩:Addr)else some ⟨b2,o2+(i+1),none⟩)≠none:=by split<;>simp
      generalize(if c=i+1 then some (⟨b2,o2,none⟩:Addr)else some ⟨b2,o2+(i+1),none⟩)=av at k2 kn|-;go_wp2_with fail;refine bodyPost_ret (v:=.tuple #[.slice (some ⟨b2,o2,none⟩) i c,.slice av (n-(i+1)) (c-(i+1)),.bool true]) (by simp[results,Tryz.results71,go_sem]) rfl ?_;rw[LS k bs i (by omega) HD.out h1];have e1:(bs.take i).length=i:=by rw[List.length_take];omega
      have e2:(bs.drop (i+1)).length=n-(i+1):=by rw[List.length_drop,hl]
      exact⟨_,_,rfl,⟨_,c,by rw[e1],by rw[e1];omega,hcm,hno,(HR.out.front i).drewN nq⟩,⟨av,_,by rw[e2],by rw[e2];omega,by omega,fun h=>absurd h kn,k2⟩,below_drewN (Below.refl _ _) _⟩
    . have h1':(((bs.getD i 0:Nat):Int)==(k:Int))=false:=beq_eq_false_iff_ne.2 (by omega);obtain⟨cv,ecv⟩:∃x,x=bs.getD i 0:=⟨_,rfl⟩;rw[<-ecv]at hck h1 h1';have ECV:=hid ecv;have H1:=hid h1;clear ecv h1;go_wp2_with fail;go_roundw
      case rel=>
       have hd2:∀j,j<i+1->bs.getD j 0≠k:=by
        intro j hj
        by_cases e:j=i
        . rw[e,<-ECV.out];exact H1.out
        . exact HD.out j (by omega)
       exact⟨i+1,by omega,by go_num,hd2,by first|rfl|trivial⟩
      case measure=>simp[intOf];omega
  . have hlt':¬(i:Int)<(n:Int):=by omega
    go_wp2_with fail;refine bodyPost_ret (v:=.tuple #[.slice ao n c,.slice none 0 0,.bool false]) (by simp[results,Tryz.results71,go_sem]) rfl ?_
    rw[LM k bs fun j hj=>HD.out j (by omega)]
    refine⟨_,_,rfl,⟨ao,c,by rw[hl],by rw[hl];exact hcap,hcm,hno,hr⟩,⟨none,0,rfl,by simp,by omega,fun _=>rfl,?_⟩,Below.refl _ _⟩
    exact⟨fun x hx=>by simp at hx,fun hp=>by simp at hp⟩

theorem zC (ao:Option Addr)(n c:Nat)(bs:List Nat)(w:World)(hl:bs.length=n)(hn:n<=20000)(hr:RdB w ao bs):
 Calls Tryz.prog 69 #[.slice ao n c] w fun e w'=>RetY w w' e (bs.map M.low):=by
 obtain⟨i0,hi,hz0,hz1,hz2⟩:=info_parts Tryz.infoY;go_enter Tryz.func69,Tryz.ntmps69;go_wp2_with fail
 go_loopw [3,8] (fun ov i wx=>∃(t oc:Nat)(oa:Option Addr),t<=n/\i=.int .i64 (t:Int)/\ov=.slice oa t oc/\wx.ownsRow w.heap.size 5 1 (.slice oa t oc) t (UB ((bs.map M.low).take t))/\Below w.heap.size w wx) (fun _ i _=>n-(intOf i).toNat)
 case atStart=>exact⟨0,0,none,by omega,rfl,rfl,by rw[List.take_zero];exact World.ownsRow_nil _ _ _ _,Below.refl _ _⟩
 case round=>
  rename World=>wx
  obtain⟨t,oc,oa,ht,rfl,rfl,own3,b3⟩:=hrel;have OWN3:=hid own3;have B3:=hid b3;clear own3 b3
  by_cases hlt:t<n
  . have hlt':(t:Int)<(n:Int):=by omega
    obtain⟨b2,o2,hbo,hc2⟩:=hr.2 (by omega);have hck:=(B3.out.cell (p:=⟨b2,o2+t,none⟩) (World.block_lt_of_cell? w _ (hc2 t (by omega)))).trans (hc2 t (by omega));clear hc2;subst hbo;have hx256:bs.getD t 0<256:=M.bG (by omega) hr.1 t
    have hst:(bs.map M.low).take (t+1)=(bs.map M.low).take t++[M.low (bs.getD t 0)]:=by
     rw[List.take_add_one,List.getElem?_map,List.getD_eq_getElem?_getD,List.getElem?_eq_getElem (show t<bs.length by omega)];rfl
    obtain⟨x,hx⟩:∃x,x=bs.getD t 0:=⟨_,rfl⟩;rw[<-hx]at hck hst hx256;clear hx;have HST:=hid hst;clear hst
    by_cases h1:65<=x
    . have h1':(65:Int)<=(x:Int):=by omega
      by_cases h2:x<=90
      . have h2':(x:Int)<=90:=by omega
        have hlo:M.low x=x+32:=by unfold M.low;rw[if_pos ⟨h1,h2⟩]
        rw[hlo]at HST
        go_wp2_with (at_builtin;refine wpList_append_own _ rfl _ _ 22 rfl w.heap.size 5 i0 (.int .u8 0) 1 1 Tryz.underlying22 hi hz0 hz1 hz2 rfl (by decide) _ _ _ rfl (OWN3.out.alloc _) ⟨wx.heap.size,0,none⟩ 1 1 (UB [x+32]) rfl rfl ?c1 ?c2 ?c3 ?c4 ?c5 ?_)
        case c1=>
         intro j u hj
         match j,hj with
         |0,hj=>simp[UB]at hj;subst hj;simp[Addr.add]
        case c2=>exact iB _
        case c3=>unfold maxLen;omega
        case c4=>omega
        case c5=>have:=B3.out.size;simp;omega
        intro v' w3 hown' hgrow _;obtain⟨oa3,cap',rfl⟩:=cV hown';go_wp2_with fail;go_roundw
        case rel=>
         refine⟨t+1,cap',oa3,by omega,by go_num,rfl,by rw[HST.out,cN];exact hown',?_⟩
         exact(B3.out.alloc B3.out.size _).grown hgrow (by have:=B3.out.size;simp;omega) (fun j e=>bU OWN3.out e)
        case measure=>simp[intOf];omega
      . have h2':¬(x:Int)<=90:=by omega
        have hlo:M.low x=x:=by unfold M.low;rw[if_neg (by omega)]
        rw[hlo]at HST
        go_wp2_with (at_builtin;refine wpList_append_own _ rfl _ _ 22 rfl w.heap.size 5 i0 (.int .u8 0) 1 1 Tryz.underlying22 hi hz0 hz1 hz2 rfl (by decide) _ _ _ rfl (OWN3.out.alloc _) ⟨wx.heap.size,0,none⟩ 1 1 (UB [x]) rfl rfl ?c1 ?c2 ?c3 ?c4 ?c5 ?_)
        case c1=>
         intro j u hj
         match j,hj with
         |0,hj=>simp[UB]at hj;subst hj;simp
        case c2=>exact iB _
        case c3=>unfold maxLen;omega
        case c4=>omega
        case c5=>have:=B3.out.size;simp;omega
        intro v' w3 hown' hgrow _;obtain⟨oa3,cap',rfl⟩:=cV hown';go_wp2_with fail;go_roundw
        case rel=>
         refine⟨t+1,cap',oa3,by omega,by go_num,rfl,by rw[HST.out,cN];exact hown',?_⟩
         exact(B3.out.alloc B3.out.size _).grown hgrow (by have:=B3.out.size;simp;omega) (fun j e=>bU OWN3.out e)
        case measure=>simp[intOf];omega
    . have h1':¬(65:Int)<=(x:Int):=by omega
      have hlo:M.low x=x:=by unfold M.low;rw[if_neg (by omega)]
      rw[hlo]at HST
      go_wp2_with (at_builtin;refine wpList_append_own _ rfl _ _ 22 rfl w.heap.size 5 i0 (.int .u8 0) 1 1 Tryz.underlying22 hi hz0 hz1 hz2 rfl (by decide) _ _ _ rfl (OWN3.out.alloc _) ⟨wx.heap.size,0,none⟩ 1 1 (UB [x]) rfl rfl ?c1 ?c2 ?c3 ?c4 ?c5 ?_)
      case c1=>
       intro j u hj
       match j,hj with
       |0,hj=>simp[UB]at hj;subst hj;simp
      case c2=>exact iB _
      case c3=>unfold maxLen;omega
      case c4=>omega
      case c5=>have:=B3.out.size;simp;omega
      intro v' w3 hown' hgrow _;obtain⟨oa3,cap',rfl⟩:=cV hown';go_wp2_with fail;go_roundw
      case rel=>
       refine⟨t+1,cap',oa3,by omega,by go_num,rfl,by rw[HST.out,cN];exact hown',?_⟩
       exact(B3.out.alloc B3.out.size _).grown hgrow (by have:=B3.out.size;simp;omega) (fun j e=>bU OWN3.out e)
      case measure=>simp[intOf];omega
  . have e:t=n:=by omega
    subst e;have hlt':¬(t:Int)<(t:Int):=by omega
    go_wp2_with fail;go_ret;have h1:=OWN3.out;have hl2:(bs.map M.low).length=t:=by rw[List.length_map,hl]
    rw[List.take_of_length_le (by omega)]at h1;exact⟨oa,oc,by rw[hl2];rfl,by rw[hl2];exact h1,B3.out⟩

def aX (s:ByteArray):List Nat:=s.data.toList.map (·.toNat)

def zV (bs:List Nat):ByteArray:=strOfNums (bs.map fun x:Nat=>(x:Int))

theorem oF (bs:List Nat)(h:∀x∈bs,x<256):aX (zV bs)=bs:=by
 unfold aX zV;rw[strOfNums_data,List.map_map,List.map_map]
 refine(List.map_congr_left fun x hx=>?_).trans (List.map_id bs)
 have:=h x hx
 simp[UInt8.toNat_ofNat']
 omega

theorem I1 {s t:ByteArray}(h:aX s=aX t):s=t:=by
 unfold aX at h
 have:s.data.toList=t.data.toList:=(List.map_inj_right (f:=UInt8.toNat) (fun x y hxy=>UInt8.toNat_inj.1 hxy)).1 h
 cases s;cases t;simp only[ByteArray.mk.injEq];exact Array.toList_inj.1 this

theorem yQ (ao:Option Addr)(n c:Nat)(bs:List Nat)(w:World)(hl:bs.length=n)(hr:RdB w ao bs):
 ∀dst,Tryz.prog.underlying dst=some .string->(convert 22 dst (.slice ao n c)).run Tryz.prog w=.ok (.string (zV bs)) w:=by
 cases bs with
 |nil=>
  obtain rfl:n=0:=by simpa using hl.symm
  cases ao with
  |none=>exact run_convert_bytes_nil w 22 5 Tryz.underlying22 Tryz.underlying5 0 c
  |some a=>
   intro dst hd
   rw[run_convert_bytes_string w 22 dst 5 _ 0 c Tryz.underlying22 Tryz.underlying5 hd,run_bytesToString w a 0 c [] (run_loadCells_list w a [] (fun j v h=>by simp at h))]
   rfl
 |cons x r=>
  obtain⟨b2,o2,rfl,hc⟩:=hr.2 (by simp)
  exact run_convert_bytes_arg w 22 5 Tryz.underlying22 Tryz.underlying5 b2 o2 n c _ (by simpa using hl) fun i hi=>by
   rw[hc i (by omega)];simp only[List.getD_eq_getElem?_getD,List.getElem?_map];rw[List.getElem?_eq_getElem (by omega)];rfl

theorem OX (bs:List Nat)(h:∀x∈bs,x<256)(s:ByteArray):((zV bs).toList==s.toList)=decide (bs=aX s):=by
 by_cases e:bs=aX s
 . have:zV bs=s:=I1 (by rw[oF bs h,e]);rw[this,beq_self_eq_true,decide_eq_true e]
 . rw[decide_eq_false e,beq_eq_false_iff_ne];intro k
   apply e
   rw[ByteArray.toList_eq,ByteArray.toList_eq]at k;rw[<-oF bs h];unfold aX;rw[k]

theorem i8 (ao:Option Addr)(n c:Nat)(bs:List Nat)(s:ByteArray)(w:World)(hl:bs.length=n)(hr:RdB w ao bs)(b:Bool)(hb:b=decide (bs=aX s)):
 Calls Tryz.prog 70 #[.slice ao n c,.string s] w fun e w'=>e=.returned (.bool b)/\w'=w:=by
 have hcv:=yQ ao n c bs w hl hr;have HE:=hid (hb.trans (OX bs hr.1 s).symm);go_enter Tryz.func70,Tryz.ntmps70;go_wp2_with fail;go_ret;exact⟨by rw[HE.out];rfl,rfl⟩

theorem AZ (w:World)(row:Option Nat):w.grownBy w row:=⟨rfl,rfl,rfl,Nat.le_refl _,fun _ _ _=>rfl⟩

theorem dC {ops:Array Oper}{rest:List Oper}{o:Oper}{a:Act}{Q:Exit->Act->World->Prop}(hgd:o.guard=none)(s x:Operand)
 (ho:o.op=.call { callee:=.builtin .append,args:=#[s,x],argTypes:=#[22,22] })(w:World)(base:Nat)
 (v:Value)(n:Nat)(xs:List Nat)(hs:a.eval s=v)(hown:w.ownsRow base 5 1 v n (UB xs))(ao:Option Addr)(m c:Nat)(ys:List Nat)(hx:a.eval x=.slice ao m c)(hl:ys.length=m)
 (hno:ao=none->c=0)(hr:RdB w ao ys)(hn:n+m<=1000000)(hbase:base<=w.heap.size)
 (h:∀ra rc w',w'.ownsRow base 5 1 (.slice ra (n+m) rc) (n+m) (UB (xs++ys))->w.grownBy w' v.ownBlock->wpList Tryz.prog ops Q rest (a.put o.dst (.slice ra (n+m) rc)) w'):wpList Tryz.prog ops Q (o::rest) a w:=by
 obtain⟨i0,hi,hz0,hz1,hz2⟩:=info_parts Tryz.infoY
 cases ao with
 |none=>
  obtain rfl:=hno rfl
  have hm:m=0:=by
   rcases Nat.eq_zero_or_pos m with e|e
   . exact e
   . obtain⟨b,off,e2,_⟩:=hr.2 (by omega);cases e2
  subst hm;have hys:ys=[]:=List.length_eq_zero_iff.1 hl;subst hys;obtain⟨ra,rc,rfl⟩:=cV hown;refine wpList_append_own_none hgd s x 22 ho base 5 i0 1 Tryz.underlying22 hi _ n (UB xs) hs hown hx ?_;exact h ra rc w (by rw[List.append_nil];exact hown) (AZ _ _)
 |some ad=>
  refine wpList_append_own w hgd s x 22 ho base 5 i0 (.int .u8 0) 1 1 Tryz.underlying22 hi hz0 hz1 hz2 rfl (by decide) v n (UB xs) hs hown ad m c (UB ys) hx (by rw[aP,hl,Nat.mul_one]) ?_ (iB _) (by unfold maxLen;omega) (by omega) hbase ?_
  . intro j u hj
    have hjl:j<ys.length:=by
     rcases Nat.lt_or_ge j ys.length with k|k
     . exact k
     . rw[List.getElem?_eq_none (by rw[aP];exact k)]at hj;cases hj
    obtain⟨b,off,e2,hc⟩:=hr.2 (by omega);cases e2;rw[eJ ys j hjl]at hj;cases hj;rw[Addr.add_lit];exact hc j hjl
  . intro v' w' hown' hg _;obtain⟨ra,rc,rfl⟩:=cV hown';exact h ra rc w' (by rw[cN];exact hown') hg

theorem tU (s:ByteArray):Lib.strCells s=UB (aX s):=by
 unfold Lib.strCells UB aX;rw[List.map_map];rfl

theorem sG {ops:Array Oper}{rest:List Oper}{o:Oper}{a:Act}{Q:Exit->Act->World->Prop}(hgd:o.guard=none)(sl x:Operand)
 (ho:o.op=.call { callee:=.builtin .append,args:=#[sl,x],argTypes:=#[22,9] })(w:World)(base:Nat)
 (v:Value)(n:Nat)(xs:List Nat)(hs:a.eval sl=v)(hown:w.ownsRow base 5 1 v n (UB xs))(s:ByteArray)(hx:a.eval x=.string s)(hn:n+s.size<=1000000)(hbase:base<=w.heap.size)
 (h:∀ra rc w',w'.ownsRow base 5 1 (.slice ra (n+s.size) rc) (n+s.size) (UB (xs++aX s))->w.grownBy w' v.ownBlock->wpList Tryz.prog ops Q rest (a.put o.dst (.slice ra (n+s.size) rc)) w'):wpList Tryz.prog ops Q (o::rest) a w:=by
 obtain⟨i0,hi,hz0,hz1,hz2⟩:=info_parts Tryz.infoY;refine Lib.wpList_append_own_string w hgd sl x 22 9 ho base 5 i0 Tryz.underlying22 Tryz.underlying9 hi hz0 hz1 hz2 v n (UB xs) hs hown s hx (by unfold maxLen;omega) (by omega) hbase ?_;intro v' w' hown' hg _;obtain⟨ra,rc,rfl⟩:=cV hown';exact h ra rc w' (by rw[cN,<-tU];exact hown') hg

end Go.Proofs.YtfdgkleoaehjaaaGreatDoor
