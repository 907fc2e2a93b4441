import Derived.Test.YtfdgkleoaehjaaaGreatDoorfNfd
set_option maxHeartbeats 4000000
set_option maxRecDepth 10000
namespace Go.Proofs.YtfdgkleoaehjaaaGreatDoor.M
set_option linter.unusedVariables false
set_option maxRecDepth 100000

theorem Fm.Ok.far_big {F:Fm}(h:F.Ok)(N De:Nat)(hN:0<N)(hd:0<De)(hb:¬lt2 N De ((F.emax:Int)+1))(n:Bool)(tiny range:Int):
 F.rPt n N De=⟨4,n,0,0⟩/\F.rFl N De tiny range=range:=by
 have tp:=h.top2;have lp:=h.leadPos;have two:=h.two_lead;have hp:=h.p1;have hqm:F.qmin=2-(F.emax:Int)-(F.p:Int):=rfl;obtain⟨e1,e2⟩:=vI N De hN hd
 have hE:(F.emax:Int)+1<=rE N De:=by
  rcases Int.lt_or_le (rE N De) ((F.emax:Int)+1)with c|c
  . exact absurd (iY hd e2 (by omega)) hb
  . exact c
 have hq:F.rQ N De=max (rE N De-F.p+1) F.qmin:=rfl;obtain⟨hM,k1,k2⟩:=h.rS_ok N De hN hd;have k3:=k2 (by omega);have hs:F.lead<=F.rS N De:=by unfold Fm.rS;omega
 have hg:F.lead<=F.rSig N De:=by unfold Fm.rSig;split<;>omega
 have hx:F.rQ N De<=F.rExp N De:=by unfold Fm.rExp;split<;>omega
 unfold Fm.rPt Fm.rFl;rw[if_neg (by omega),if_neg (by omega),if_pos (by omega),if_neg (by omega),if_neg (by omega),if_pos (by omega)];exact⟨rfl,rfl⟩

theorem Fm.Ok.far_small {F:Fm}(h:F.Ok)(N De:Nat)(hN:0<N)(hd:0<De)(hb:lt2 N De (F.qmin-1))(n:Bool)(tiny range:Int):
 F.rPt n N De=⟨1,n,0,0⟩/\F.rFl N De tiny range=tiny:=by
 have hp:=h.p1;obtain⟨e1,e2⟩:=vI N De hN hd
 have hE:rE N De<F.qmin-1:=by
  rcases Int.lt_or_le (rE N De) (F.qmin-1)with c|c
  . exact c
  . exact absurd (iY hd hb c) e1
 have hq:F.rQ N De=F.qmin:=by unfold Fm.rQ;omega
 have k:2*F.rN N De<F.rM N De:=by
  rw[iG N De _ ((-(F.qmin)).toNat+1) (by omega),show((((-(F.qmin)).toNat+1:Nat):Int)+(F.qmin-1)).toNat=F.qmin.toNat by omega,Nat.pow_succ]at hb;unfold Fm.rN Fm.rM;rw[hq];rw[<-Nat.mul_assoc]at hb;omega
 have z:F.rS N De=0:=by
  have m1:F.rN N De%F.rM N De=F.rN N De:=Nat.mod_eq_of_lt (by omega);have d1:F.rN N De/F.rM N De=0:=Nat.div_eq_of_lt (by omega);unfold Fm.rS rUp;rw[m1,d1,if_neg (by omega)]
 have g:F.rSig N De=0:=by
  have:0<2^F.p:=Nat.pow_pos (by omega);unfold Fm.rSig;rw[z,if_neg (by omega)]
 unfold Fm.rPt Fm.rFl;rw[if_pos g,if_pos g];exact⟨rfl,rfl⟩

theorem CV (J:Nat):2^(33*J)<=10^(10*J):=by
 rw[Nat.pow_mul,Nat.pow_mul];exact Nat.pow_le_pow_left (by omega) J

theorem Fm.Ok.emax_le {F:Fm}(h:F.Ok):F.emax<=16383:=by
 have e2:=h.e2;have e1:=h.e1;have:2^(F.e-1)<=2^14:=Nat.pow_le_pow_right (by omega) (by omega);unfold Fm.emax;omega

theorem Fm.Ok.dec_big {F:Fm}(h:F.Ok)(D k:Nat)(e:Int)(hk:0<k)(h1:10^(k-1)<=D)(hp:5000<(k:Int)+e):¬lt2 (D*10^e.toNat) (10^(-e).toNat) ((F.emax:Int)+1):=by
 have hx:=h.emax_le;obtain⟨J,hJ⟩:∃J:Nat,J=500:=⟨_,rfl⟩;have a1:2^(F.emax+1)<=2^(33*J):=Nat.pow_le_pow_right (by omega) (by omega);have a2:10^(10*J)<=10^((k:Int)+e-1).toNat:=Nat.pow_le_pow_right (by omega) (by omega);have a3:=Nat.le_trans a1 (Nat.le_trans (CV J) a2)
 have a4:10^(-e).toNat*10^((k:Int)+e-1).toNat=10^(k-1)*10^e.toNat:=by
  rw[<-Nat.pow_add,<-Nat.pow_add];congr 1;omega
 have a5:10^(-e).toNat*2^(F.emax+1)<=10^(-e).toNat*10^((k:Int)+e-1).toNat:=Nat.mul_le_mul_left _ a3;have a6:10^(k-1)*10^e.toNat<=D*10^e.toNat:=Nat.mul_le_mul_right _ h1;unfold lt2;rw[show(-((F.emax:Int)+1)).toNat=0 by omega,show((F.emax:Int)+1).toNat=F.emax+1 by omega,Nat.pow_zero,Nat.mul_one];omega

theorem Fm.Ok.dec_small {F:Fm}(h:F.Ok)(D k:Nat)(e:Int)(h1:D<10^k)(hp:(k:Int)+e< -5100):lt2 (D*10^e.toNat) (10^(-e).toNat) (F.qmin-1):=by
 have hx:=h.emax_le;have p1:=h.p1;have p2:=h.p2;have hqm:F.qmin=2-(F.emax:Int)-(F.p:Int):=rfl;obtain⟨J,hJ⟩:∃J:Nat,J=510:=⟨_,rfl⟩;have a1:2^(1-F.qmin).toNat<=2^(33*J):=Nat.pow_le_pow_right (by omega) (by omega);have a2:10^(10*J)<=10^((-e).toNat-k):=Nat.pow_le_pow_right (by omega) (by omega);have a3:=Nat.le_trans a1 (Nat.le_trans (CV J) a2)
 have a4:10^k*10^((-e).toNat-k)=10^(-e).toNat:=by
  rw[<-Nat.pow_add];congr 1;omega
 have a5:D*2^(1-F.qmin).toNat<10^k*2^(1-F.qmin).toNat:=(Nat.mul_lt_mul_right (Nat.pow_pos (by omega))).2 h1;have a6:10^k*2^(1-F.qmin).toNat<=10^k*10^((-e).toNat-k):=Nat.mul_le_mul_left _ a3
 by_cases hq:F.qmin<=1
 . unfold lt2;rw[show(-(F.qmin-1)).toNat=(1-F.qmin).toNat by omega,show(F.qmin-1).toNat=0 by omega,show e.toNat=0 by omega,Nat.pow_zero,Nat.mul_one,Nat.mul_one];omega
 . have:=h.top2;omega

def aO (e:Int)(k:Nat):Int:=max (min e 5200) (-5200-(k:Int))

theorem Fm.Ok.clamped {F:Fm}(h:F.Ok)(D k:Nat)(e:Int)(hk:0<k)(h1:10^(k-1)<=D)(h2:D<10^k)(n:Bool)(tiny range:Int):
 (5000<(k:Int)+e->F.rPt n (D*10^(aO e k).toNat) (10^(-(aO e k)).toNat)=⟨4,n,0,0⟩/\F.rFl (D*10^(aO e k).toNat) (10^(-(aO e k)).toNat) tiny range=range)/\
 ((k:Int)+e< -5100->F.rPt n (D*10^(aO e k).toNat) (10^(-(aO e k)).toNat)=⟨1,n,0,0⟩/\F.rFl (D*10^(aO e k).toNat) (10^(-(aO e k)).toNat) tiny range=tiny)/\
 (¬5000<(k:Int)+e->¬(k:Int)+e< -5100->aO e k=e):=by
 have hc:aO e k=max (min e 5200) (-5200-(k:Int)):=rfl;have hD:0<D:=Nat.lt_of_lt_of_le (Nat.pow_pos (by omega)) h1
 refine⟨fun c=>?_,fun c=>?_,fun c d=>by omega⟩
 . exact h.far_big _ _ (Nat.mul_pos hD (Nat.pow_pos (by omega))) (Nat.pow_pos (by omega)) (h.dec_big D k _ hk h1 (by omega)) n tiny range
 . exact h.far_small _ _ (Nat.mul_pos hD (Nat.pow_pos (by omega))) (Nat.pow_pos (by omega)) (h.dec_small D k _ h2 (by omega)) n tiny range

theorem tF {p:Nat->Bool}:∀{l:List Nat}{c:Nat}{r:List Nat},l.dropWhile p=c::r->p c=false
 |[],c,r,h=>by simp at h
 |x::l,c,r,h=>by
  rw[List.dropWhile_cons]at h
  by_cases hx:p x=true
  . rw[if_pos hx]at h;exact tF h
  . rw[if_neg hx]at h;injection h with h1 h2;rw[<-h1];simpa using hx

theorem oO (l:List Nat):bJ l<+:aT l:=by
 unfold bJ cL
 have:=List.dropWhile_suffix (l:=(aT l).reverse) (fun c=>decide (c=48))
 rw[<-List.reverse_prefix,List.reverse_reverse]at this;exact this

theorem F7 {l:List Nat}{c:Nat}{r:List Nat}(h:bJ l=c::r):c≠48:=by
 obtain⟨t,ht⟩:=oO l;rw[h]at ht
 have:=tF (l:=l) (c:=c) (r:=r++t) (p:=fun c=>decide (c=48)) ht.symm
 simpa using this

theorem IF {l:List Nat}(h:∀c∈l,48<=c/\c<=57):Dig (bJ l):=fun c hc=>
 h c ((List.dropWhile_suffix (l:=l) (fun c=>decide (c=48))).subset ((oO l).subset hc))

theorem A5 {c:Nat}{r:List Nat}(h:Dig (c::r))(hc:c≠48):10^r.length<=dec (c::r):=by
 have h2:=h c (by simp);rw[tL];have h3:1*10^r.length<=(c-48)*10^r.length:=Nat.mul_le_mul_right _ (by omega);omega

theorem oR:∀(l:List Nat)(x:Nat),x<=1000000->iV x l<=1000000
 |[],x,h=>h
 |c::l,x,h=>by
  have:iV x (c::l)=iV (min (x*10+(c-48)) 1000000) l:=rfl;rw[this];exact oR l _ (Nat.min_le_right _ _)

theorem MY {c:List Nat×List Nat×Bool}{b:Bool}{x:Nat}(h:nN c=some (b,x)):x<=1000000:=by
 unfold nN at h;split at h
 . split at h
   . cases h
   . have h2:iV 0 (signed c.2.1).1=x:=by injection h with h;injection h
     rw[<-h2];exact oR _ _ (by omega)
 . have h2:0=x:=by injection h with h;injection h
   omega

structure Sound (t:List Nat)(d:Dec):Prop where
 dig:Dig d.digits
 head:∀c r,d.digits=c::r->c≠48
 exp1:-1000000-(t.length:Int)<=d.exp
 exp2:d.exp<=1000000+(t.length:Int)

theorem JR (k:Nat):∀l:List Nat,(cut k l).1.length+(cut k l).2.1.length<=l.length
 |[]=>by simp[cut]
 |x::l=>by
  have:=JR k l;unfold cut;split
  . simp
  . simp only[List.length_cons];omega

theorem NZ (l:List Nat):(signed l).1.length<=l.length:=by
 cases l with
 |nil=>simp[signed]
 |cons x r=>
  show(if x=43\/x=45 then(r,decide (x=45))else(x::r,false)).1.length<=(x::r).length
  split<;>simp

theorem dY {t:List Nat}{d:Dec}(h:whole t=some d):Sound t d:=by
 unfold whole mU at h;have hs:=NZ (t.map low);rw[List.length_map]at hs;generalize(signed (t.map low)).1=v at h hs;split at h
 . cases h
   exact⟨fun c hc=>by simp at hc,fun c r e=>by simp at e,by simp only;omega,by simp only;omega⟩
 . split at h
   . cases h
     exact⟨fun c hc=>by simp at hc,fun c r e=>by simp at e,by simp only;omega,by simp only;omega⟩
   . unfold yA at h;split at h
     . cases h
     . rename_i hn
       rw[Option.map_eq_some_iff]at h;obtain⟨⟨b,x⟩,hx,rfl⟩:=h;have hx':=MY hx;have c1:=JR 101 v;have c2:=JR 46 (cut 101 v).1;generalize hA:(cut 46 (cut 101 v).1).1=A at*;generalize hB:(cut 46 (cut 101 v).1).2.1=B at*
       have hd:∀c∈A++B,48<=c/\c<=57:=by
        intro c hc
        have k1:A.all dgt=true:=by
         rcases Bool.eq_false_or_eq_true (A.all dgt)with q|q
         . exact q
         . exact absurd (.inl q) hn
        have k2:B.all dgt=true:=by
         rcases Bool.eq_false_or_eq_true (B.all dgt)with q|q
         . exact q
         . exact absurd (.inr (.inl q)) hn
        rw[List.all_eq_true]at k1 k2;rcases List.mem_append.1 hc with q|q
        . have:=k1 c q;unfold dgt at this;simpa using this
        . have:=k2 c q;unfold dgt at this;simpa using this
       have l1:=(List.dropWhile_suffix (l:=A++B) (fun c=>decide (c=48))).length_le
       have l2:=(oO (A++B)).length_le;have l3:(A++B).length=A.length+B.length:=List.length_append;have l4:(aT (A++B)).length<=(A++B).length:=l1
       refine⟨IF hd,fun c r e=>F7 e,?_,?_⟩
       . show-1000000-(t.length:Int)<=iJ (A++B) ((if b then-(x:Int)else x)-B.length)
         unfold iJ
         split<;>cases b<;>(try simp only[Bool.false_eq_true,if_false,if_true])<;>omega
       . show iJ (A++B) ((if b then-(x:Int)else x)-B.length)<=1000000+(t.length:Int)
         unfold iJ
         split<;>cases b<;>(try simp only[Bool.false_eq_true,if_false,if_true])<;>omega

theorem Sound.size {t:List Nat}{d:Dec}(h:Sound t d)(hk:0<d.digits.length):10^(d.digits.length-1)<=dec d.digits/\dec d.digits<10^d.digits.length:=by
 refine⟨?_,iU _ h.dig⟩
 cases e:d.digits with
 |nil=>rw[e]at hk;simp at hk
 |cons c r=>
  have:=h.dig;rw[e]at this;rw[List.length_cons,Nat.add_sub_cancel];exact A5 this (h.head c r e)

theorem fY {t:List Nat}{d:Dec}(h:whole t=some d):(d.kind=1/\d.digits.length<=t.length)\/(d.kind=2/\d.digits=[])\/(d.kind=3/\d.neg=false/\d.digits=[]):=by
 unfold whole mU at h;have hs:=NZ (t.map low);rw[List.length_map]at hs;generalize(signed (t.map low)).1=v at h hs;split at h
 . cases h;exact .inr (.inl ⟨rfl,rfl⟩)
 . split at h
   . cases h;exact .inr (.inr ⟨rfl,rfl,rfl⟩)
   . unfold yA at h;split at h
     . cases h
     . rw[Option.map_eq_some_iff]at h;obtain⟨⟨b,x⟩,hx,rfl⟩:=h;have c1:=JR 101 v;have c2:=JR 46 (cut 101 v).1;generalize(cut 46 (cut 101 v).1).1=A at*;generalize(cut 46 (cut 101 v).1).2.1=B at*
       have l1:=(List.dropWhile_suffix (l:=A++B) (fun c=>decide (c=48))).length_le
       have l2:=(oO (A++B)).length_le;have l3:(A++B).length=A.length+B.length:=List.length_append;have l4:(aT (A++B)).length<=(A++B).length:=l1;refine .inl ⟨rfl,?_⟩
       show(bJ (A++B)).length<=t.length
       omega

end Go.Proofs.YtfdgkleoaehjaaaGreatDoor.M
namespace Go.Proofs.YtfdgkleoaehjaaaGreatDoor
open Go.RowKit
set_option linter.unusedVariables false
set_option maxRecDepth 100000

def peN (d:M.Dec):Nat:=M.dec d.digits*10^(M.aO d.exp d.digits.length).toNat

def peD (d:M.Dec):Nat:=10^(-(M.aO d.exp d.digits.length)).toNat

def peY (F:M.Fm)(d:M.Dec):Nat:=if d.kind=2 then F.pk ⟨4,d.neg,0,0⟩else if d.kind=3 then F.pk ⟨5,false,0,0⟩else if d.digits.length=0 then F.pk ⟨1,d.neg,0,0⟩else rY F d.neg (peN d) (peD d)

def peF (F:M.Fm)(d:M.Dec):Int:=if d.kind=2 then 0 else if d.kind=3 then 0 else if d.digits.length=0 then 0 else rF F (peN d) (peD d)

def peV (F:M.Fm)(o:M.Dec×Int×Int):Value:=if o.2.1≠0 then .agg #[.int .u64 0,.int .u64 0,.int .i64 o.2.1,.int .i64 o.2.2,.int .i64 0]
 else .agg #[.int .u64 (M.hiN (peY F o.1):Int),.int .u64 (M.loN (peY F o.1):Int),.int .i64 0,.int .i64 0,.int .i64 (peF F o.1)]

theorem nO (bs:List Nat):((aC bs).2.1≠0/\(aC bs).1=⟨0,false,[],0⟩)\/
 ∃d,aC bs=(d,0,0)/\M.whole bs=some d/\bs.length<=800:=by
 unfold aC
 by_cases h8:800<bs.length
 . rw[if_pos h8];exact .inl ⟨by decide,rfl⟩
 . rw[if_neg h8];unfold M.vG
   cases hw:M.whole bs with
   |none=>exact .inl ⟨by simp,rfl⟩
   |some d=>exact .inr ⟨d,rfl,rfl,by omega⟩

theorem vY (a j K:Nat)(h:a<2^j)(hj:j<=64*K):(L a).length<=K:=by
 refine M.len_of_lt (B:=18446744073709551616) (by omega) _ _ ?_;rw[show(18446744073709551616:Nat)=2^64 by rfl,<-Nat.pow_mul];exact Nat.lt_of_lt_of_le h (Nat.pow_le_pow_right (by omega) hj)

theorem mS (m:Nat):10^m<=2^(4*m):=by
 have:=jP 10 m
 rwa[vP]at this

theorem PT {t:List Nat}{d:M.Dec}(h:M.Sound t d)(hl:d.digits.length<=800):(L (M.dec d.digits)).length<=1201/\(L (peN d)).length<=1201/\(L (peD d)).length<=1201/\(M.aO d.exp d.digits.length).toNat<=6000/\(-(M.aO d.exp d.digits.length)).toNat<=6000:=by
 have hd:=M.iU _ h.dig;have e1:(M.aO d.exp d.digits.length).toNat<=5200:=by unfold M.aO;omega
 have e2:(-(M.aO d.exp d.digits.length)).toNat<=6000:=by unfold M.aO;omega
 have t1:=mS d.digits.length;have t2:=mS (M.aO d.exp d.digits.length).toNat;have t3:=mS (-(M.aO d.exp d.digits.length)).toNat;refine⟨vY _ (4*d.digits.length) _ (Nat.lt_of_lt_of_le hd t1) (by omega),vY _ (4*(d.digits.length+(M.aO d.exp d.digits.length).toNat)) _ ?_ (by omega),vY _ (4*(-(M.aO d.exp d.digits.length)).toNat+1) _ ?_ (by omega),by omega,e2⟩
 . unfold peN;have q:M.dec d.digits*10^(M.aO d.exp d.digits.length).toNat<10^d.digits.length*10^(M.aO d.exp d.digits.length).toNat:=Nat.mul_lt_mul_of_pos_right hd (Nat.pow_pos (by omega));rw[<-Nat.pow_add]at q;exact Nat.lt_of_lt_of_le q (mS _)
 . unfold peD;exact Nat.lt_of_le_of_lt t3 (Nat.pow_lt_pow_right (by omega) (by omega))

theorem wK (E:Int)(h1:E.toNat<=6000)(h2:(-E).toNat<=6000)(w:World):Calls Tryz.prog 52 #[.int .i64 E] w fun e w'=>RR w w' e (10^E.toNat) (10^(-E).toNat):=by
 rcases Int.le_total 0 E with h|h
 . obtain⟨m,rfl⟩:=Int.eq_ofNat_of_zero_le h;have e1:(-(m:Int)).toNat=0:=by omega
   have e2:((m:Int)).toNat=m:=by omega
   rw[e1,e2,Nat.pow_zero];exact nP m w (by omega)
 . obtain⟨m,hm⟩:=Int.eq_ofNat_of_zero_le (show 0<= -E by omega);have e:E= -(m:Int):=by omega
   subst e;have e1:(-(m:Int)).toNat=0:=by omega
   have e2:(-(-(m:Int))).toNat=m:=by omega
   rw[e1,e2,Nat.pow_zero];exact nV m w (by omega)

theorem zN (F:M.Fm)(h:F.Ok)(t:List Nat)(d:M.Dec)(hs:M.Sound t d)(hk:0<d.digits.length)(hl:d.digits.length<=800)(a:Option Addr)(cc lo:Nat)(w:World)(ho:OwnV w lo (.slice a d.digits.length cc) d.digits):
 Calls Tryz.prog 18 #[.agg #[.int .i64 d.kind,.bool d.neg,.slice a d.digits.length cc,.int .i64 d.exp],dv F] w fun e w'=>e=.returned (.agg #[.int .u64 (M.hiN (rY F d.neg (peN d) (peD d)):Int),.int .u64 (M.loN (rY F d.neg (peN d) (peD d)):Int),.int .i64 0,.int .i64 0,.int .i64 (rF F (peN d) (peD d))])/\Below w.heap.size w w':=by
 obtain⟨l1,l2,l3,l4,l5⟩:=PT hs hl;have hr:=ho.rd;obtain⟨a',c',hv,q1,q2,q3,q4,q5⟩:=ho;simp only[Value.slice.injEq]at hv;obtain⟨rfl,_,rfl⟩:=hv;obtain⟨b,off,cur,rfl,_⟩:=q5 hk
 refine BT F d.kind d.neg _ d.digits.length cc d.exp (M.aO d.exp d.digits.length) _ _ 0 0 _ w (M.dec d.digits) (10^(M.aO d.exp d.digits.length).toNat) (10^(-(M.aO d.exp d.digits.length)).toNat) rfl (by omega) (by omega) ?_ ?_
  (fun v hv=>nZ b off d.digits.length cc d.digits v rfl hk (by omega) q1 q2 hs.dig (hr.below hv)) (fun v=>wK _ l4 l5 v) (fun v a1 b1 c1 d1 r1 r2=>?_)
 . exact Nat.le_trans (jH 10 _ (gN _ (by omega))) (by omega)
 . exact Nat.le_trans (jH 10 _ (gN _ (by omega))) (by omega)
 . have:=fun(u:World)(hu:Below v.heap.size v u)=>sM F h d.neg a1 b1 c1 d1 (peN d) (peD d) u (Nat.pow_pos (by omega)) l2 l3 (r1.below hu) (r2.below hu)
   exact rJ F d.neg a1 b1 _ _ c1 d1 _ _ _ true v this

theorem BS (k:Nat)(hk:k<4)(ao:Option Addr)(n c:Nat)(bs:List Nat)(w:World)(hl:bs.length=n)(hr:RdB w ao bs)(hm:Fmt w)(hF:Fol w)(hWd:Wds w):
 Calls Tryz.prog 6 #[.int .i64 (k:Int),.slice ao n c] w fun e w'=>e=.returned (peV (M.fm k) (aC bs))/\Below w.heap.size w w':=by
 have h:=M.iM k
 have kE:=fun(v:World)(hv:Fmt v)=>j4 k hk v hv
 have kK:=fun(v:World)=>IH (M.fm k) h v
 have kS:∀(u:World),Below w.heap.size w u->∀v:World,Below u.heap.size u v->Calls Tryz.prog 47 #[.slice ao n c] v fun e w'=>∃a cc,e=.returned (.agg #[.int .i64 (aC bs).1.kind,.bool (aC bs).1.neg,.slice a (aC bs).1.digits.length cc,.int .i64 (aC bs).1.exp,.int .i64 (aC bs).2.1,.int .i64 (aC bs).2.2])/\OwnV w' v.heap.size (.slice a (aC bs).1.digits.length cc) (aC bs).1.digits/\Below v.heap.size v w':=fun u hu v hv=>by
  have hv2:=hu.trans (hv.mono hu.size);refine(uL ao n c bs v hl (hr.below hv2) (hF.below hv2) (hWd.below hv2) _ rfl).mono ?_;rintro e w' ⟨x,rfl,hO,hb⟩;have hO':=hO;obtain⟨a,c',hx,_⟩:=hO;subst hx;exact⟨a,c',rfl,hO',hb⟩
 rcases nO bs with⟨h1,h2⟩|⟨d,h1,h2,h3⟩
 . unfold peV;rw[if_pos h1];generalize aC bs=o at*;obtain⟨d,cd,off⟩:=o;simp only at h1 h2 kS;subst h2
   refine eK (k:Int) ao n c w 0 false 0 0 0 0 cd off 0 (fun u hu=>?_)
   refine(r9 (k:Int) ao n c u (hm.below hu) (M.fm k) kE kK 0 false 0 0 cd off (fun v lo a k=>OwnV v lo (.slice a 0 k) []) (fun _ _ _ _ _ h hb=>h.below hb) (fun _ _ _ _ p x h hp=>h.far p hp x) (fun _ _ _ _ _ h hl=>h.low hl) h1 (fun v hv=>kS u hu v hv)).mono ?_
   rintro e w' ⟨rfl,hb⟩;exact⟨none,0,rfl,hb⟩
 . have hs:=M.dY h2;unfold peV;rw[h1]at kS|-;simp only at kS;simp only[ne_eq,not_true_eq_false,if_false];unfold peY peF
   by_cases hk2:d.kind=2
   . rw[if_pos hk2,if_pos hk2]
     have kP:=fun u:World=>uV (M.fm k) h 4 d.neg 0 0 (by omega) u
     have hp:(M.fm k).Proper ⟨4,d.neg,0,0⟩:=by unfold M.Fm.Proper;simp
     have e:=o9 h ⟨4,d.neg,0,0⟩ hp;simp only at e;rw[e]at kP;simp only[hi0,lo0]at kP
     refine eK (k:Int) ao n c w d.kind d.neg d.digits.length d.exp _ _ 0 0 0 (fun u hu=>?_)
     refine(gY (k:Int) ao n c u (hm.below hu) (M.fm k) kE kK d.kind d.neg d.digits.length d.exp 0 0 (fun v lo a k=>OwnV v lo (.slice a d.digits.length k) d.digits) (fun _ _ _ _ _ h hb=>h.below hb) (fun _ _ _ _ p x h hp=>h.far p hp x) (fun _ _ _ _ _ h hl=>h.low hl) rfl _ _ (.inl ⟨hk2,rfl,rfl⟩) _ _ kP (fun v hv=>kS u hu v hv)).mono ?_
     rintro e w' ⟨a,c',rfl,_,hb⟩;exact⟨a,c',rfl,hb⟩
   rw[if_neg hk2,if_neg hk2]
   by_cases hk3:d.kind=3
   . rw[if_pos hk3,if_pos hk3]
     have kP:=fun u:World=>uV (M.fm k) h 5 false 0 0 (by omega) u
     have hp:(M.fm k).Proper ⟨5,false,0,0⟩:=by unfold M.Fm.Proper;simp
     have e:=o9 h ⟨5,false,0,0⟩ hp;simp only at e;rw[e]at kP;simp only[hi0,lo0]at kP
     refine eK (k:Int) ao n c w d.kind d.neg d.digits.length d.exp _ _ 0 0 0 (fun u hu=>?_)
     refine(gY (k:Int) ao n c u (hm.below hu) (M.fm k) kE kK d.kind d.neg d.digits.length d.exp 0 0 (fun v lo a k=>OwnV v lo (.slice a d.digits.length k) d.digits) (fun _ _ _ _ _ h hb=>h.below hb) (fun _ _ _ _ p x h hp=>h.far p hp x) (fun _ _ _ _ _ h hl=>h.low hl) rfl _ _ (.inr (.inl ⟨hk3,rfl,rfl⟩)) _ _ kP (fun v hv=>kS u hu v hv)).mono ?_
     rintro e w' ⟨a,c',rfl,_,hb⟩;exact⟨a,c',rfl,hb⟩
   rw[if_neg hk3,if_neg hk3]
   by_cases hd0:d.digits.length=0
   . rw[if_pos hd0,if_pos hd0]
     have kP:=fun u:World=>uV (M.fm k) h 1 d.neg 0 0 (by omega) u
     have hp:(M.fm k).Proper ⟨1,d.neg,0,0⟩:=by unfold M.Fm.Proper;simp
     have e:=o9 h ⟨1,d.neg,0,0⟩ hp;simp only at e;rw[e]at kP;simp only[hi0,lo0]at kP
     refine eK (k:Int) ao n c w d.kind d.neg d.digits.length d.exp _ _ 0 0 0 (fun u hu=>?_)
     refine(gY (k:Int) ao n c u (hm.below hu) (M.fm k) kE kK d.kind d.neg d.digits.length d.exp 0 0 (fun v lo a k=>OwnV v lo (.slice a d.digits.length k) d.digits) (fun _ _ _ _ _ h hb=>h.below hb) (fun _ _ _ _ p x h hp=>h.far p hp x) (fun _ _ _ _ _ h hl=>h.low hl) rfl _ _ (.inr (.inr ⟨hk2,hk3,hd0,rfl,rfl⟩)) _ _ kP (fun v hv=>kS u hu v hv)).mono ?_
     rintro e w' ⟨a,c',rfl,_,hb⟩;exact⟨a,c',rfl,hb⟩
   rw[if_neg hd0,if_neg hd0]
   have hl8:d.digits.length<=800:=by
    rcases M.fY h2 with x|x|x
    . omega
    . omega
    . omega
   refine GF (k:Int) ao n c w hm (M.fm k) d.kind d.neg d.digits.length d.exp _ _ 0 0 _ (fun v a k=>OwnV v 0 (.slice a d.digits.length k) d.digits) (fun _ _ _ _ h hb=>h.below hb) (fun u hu=>?_) kE (fun v a cc ho=>zN (M.fm k) h bs d hs (by omega) hl8 a cc 0 v ho)
   refine(sI (k:Int) ao n c u (hm.below hu) (M.fm k) kE kK d.kind d.neg d.digits.length d.exp 0 0 (fun v lo a k=>OwnV v lo (.slice a d.digits.length k) d.digits) (fun _ _ _ _ _ h hb=>h.below hb) (fun _ _ _ _ p x h hp=>h.far p hp x) (fun _ _ _ _ _ h hl=>h.low hl) rfl hk2 hk3 hd0 (fun v hv=>kS u hu v hv)).mono ?_
   rintro e w' ⟨a,c',rfl,hO,hb⟩;exact⟨a,c',rfl,hO.low (Nat.zero_le _),hb⟩

theorem D7 (f:Int)(hf:f<0\/4<=f)(ao:Option Addr)(n c:Nat)(w:World):
 Calls Tryz.prog 6 #[.int .i64 f,.slice ao n c] w fun e w'=>e=.returned (.agg #[.int .u64 0,.int .u64 0,.int .i64 4,.int .i64 0,.int .i64 0])/\Below w.heap.size w w':=by
 refine eK f ao n c w 0 false 0 0 0 0 4 0 0 (fun u hu=>?_)
 refine(uE f hf ao n c u).mono ?_;rintro e w' ⟨rfl,hb⟩;exact⟨none,0,rfl,hb⟩

theorem jQ (a b c d e:Int)(x:Bool)(v:World):Sem.run Tryz.prog (Instr.field 37 (.agg #[.int .i64 a,.int .i64 b,.int .i64 c,.int .i64 d,.int .i64 e,.bool x]) 0) v=.ok (.int .i64 a) v:=by kernel_rfl

theorem uH (f:Int)(hf:f<0\/4<=f)(ao:Option Addr)(n c:Nat)(w:World):
 Calls Tryz.prog 7 #[.int .i64 f,.slice ao n c] w fun e w'=>e=.returned (.agg #[.int .u64 0,.int .u64 0,.int .i64 4,.int .i64 0,.int .i64 0])/\Below w.heap.size w w':=by
 have b0:Below w.heap.size w (w.alloc (.cells dS 29)):=(Below.refl _ _).alloc (Nat.le_refl _) _;have c0:Cls (w.alloc (.cells dS 29)) w.heap.size dS 29:=Cls.new _ _ _;have fd:=jQ;go_enter Tryz.func7,Tryz.ntmps7;go_wp2_with fail;refine(iR f _ hf).mono ?_;rintro e v1 ⟨rfl,hb⟩;replace b0:=b0.trans (hb.mono b0.size);replace c0:=c0.below hb;clear hb;have RB:=hid (iS b0 _ (Nat.le_refl _) (.int .u64 0) (.int .u64 0) (.int .i64 4) (.int .i64 0) (.int .i64 0));have x0:=c0.cell 0 rfl;have x1:=c0.cell 1 rfl;have x2:=c0.cell 2 rfl;have x3:=c0.cell 3 rfl;have x4:=c0.cell 4 rfl;have z0:=c0.frozen 0;have z1:=c0.frozen 1;have z2:=c0.frozen 2;have z3:=c0.frozen 3;have z4:=c0.frozen 4;clear b0 c0;go_wp2_with fail;exact bodyPost_ret (v:=.agg #[.int .u64 0,.int .u64 0,.int .i64 4,.int .i64 0,.int .i64 0]) (by simp[results,Tryz.results7,go_sem,x0,x1,x2,x3,x4]) rfl ⟨rfl,RB.out⟩

theorem tD (f:Int)(ao:Option Addr)(n c:Nat)(w:World)(F:M.Fm)(hp0:F.p≠0)
 (kE:∀v:World,Calls Tryz.prog 9 #[.int .i64 f] v fun e w'=>e=.returned (dv F)/\Below v.heap.size v w')
 (kd:Int)(ng:Bool)(dl:Nat)(ex cd off:Int)(he1:-2000000<=ex)(he2:ex<=2000000)(hdl:dl<=10000)(OK:World->Option Addr->Nat->Prop)(okB:∀v v' a k,OK v a k->Below v.heap.size v v'->OK v' a k)
 (kS:∀v:World,Below w.heap.size w v->Calls Tryz.prog 8 #[.slice ao n c] v fun e w'=>∃a cc,e=.returned (.agg #[.int .i64 kd,.bool ng,.slice a dl cc,.int .i64 ex,.int .i64 cd,.int .i64 off])/\OK w' a cc/\Below v.heap.size v w')
 (hcd:cd≠0):
 Calls Tryz.prog 7 #[.int .i64 f,.slice ao n c] w fun e w'=>e=.returned (.agg #[.int .u64 0,.int .u64 0,.int .i64 cd,.int .i64 off,.int .i64 0])/\Below w.heap.size w w':=by
 simp only[dv]at kE;have hp1:¬(F.p:Int)=0:=by omega
 have b0:Below w.heap.size w (w.alloc (.cells dS 29)):=(Below.refl _ _).alloc (Nat.le_refl _) _;have c0:Cls (w.alloc (.cells dS 29)) w.heap.size dS 29:=Cls.new _ _ _;have fd:=jQ;go_enter Tryz.func7,Tryz.ntmps7;go_wp2_with fail;refine(kE _).mono ?_;rintro e v1 ⟨rfl,hb⟩;replace b0:=b0.trans (hb.mono b0.size);replace c0:=c0.below hb;clear hb;go_wp2_with fail;refine(kS _ b0).mono ?_;rintro e v2 ⟨a,cc,rfl,ho,hb⟩;obtain⟨v3,ev3,cs,hb2,-⟩:=eE v2 #[.int .i64 kd,.bool ng,.slice a dl cc,.int .i64 ex,.int .i64 cd,.int .i64 off] 34;replace ev3:=hid ev3;replace ho:=okB _ _ _ _ ho hb2;replace hb:=hb.trans (hb2.mono hb.size);replace b0:=b0.trans (hb.mono b0.size);replace c0:=c0.below hb;clear hb hb2;go_upto_region 4 with fail;rw[ev3.out];clear ev3;generalize v2.heap.size=gs at*;have s0:=cs.cell 0 rfl;have s1:=cs.cell 1 rfl;have s2:=cs.cell 2 rfl;have s3:=cs.cell 3 rfl;have s4:=cs.cell 4 rfl;have s5:=cs.cell 5 rfl;have RB:=hid (iS b0 _ (Nat.le_refl _) (.int .u64 0) (.int .u64 0) (.int .i64 cd) (.int .i64 off) (.int .i64 0));have x0:=c0.cell 0 rfl;have x1:=c0.cell 1 rfl;have x2:=c0.cell 2 rfl;have x3:=c0.cell 3 rfl;have x4:=c0.cell 4 rfl;have z0:=c0.frozen 0;have z1:=c0.frozen 1;have z2:=c0.frozen 2;have z3:=c0.frozen 3;have z4:=c0.frozen 4;clear b0 c0;go_wp2_with fail;exact bodyPost_ret (v:=.agg #[.int .u64 0,.int .u64 0,.int .i64 cd,.int .i64 off,.int .i64 0]) (by simp[results,Tryz.results7,go_sem,x0,x1,x2,x3,x4]) rfl ⟨rfl,RB.out⟩

theorem fI (f:Int)(ao:Option Addr)(n c:Nat)(w:World)(F:M.Fm)(hp0:F.p≠0)
 (kE:∀v:World,Calls Tryz.prog 9 #[.int .i64 f] v fun e w'=>e=.returned (dv F)/\Below v.heap.size v w')
 (kd:Int)(ng:Bool)(dl:Nat)(ex cd off:Int)(he1:-2000000<=ex)(he2:ex<=2000000)(hdl:dl<=10000)(OK:World->Option Addr->Nat->Prop)(okB:∀v v' a k,OK v a k->Below v.heap.size v v'->OK v' a k)
 (kS:∀v:World,Below w.heap.size w v->Calls Tryz.prog 8 #[.slice ao n c] v fun e w'=>∃a cc,e=.returned (.agg #[.int .i64 kd,.bool ng,.slice a dl cc,.int .i64 ex,.int .i64 cd,.int .i64 off])/\OK w' a cc/\Below v.heap.size v w')
 (hcd:cd=0)(cl fl:Int)(hcase:(kd=2/\cl=4/\fl=0)\/(kd=3/\cl=5/\fl=0)\/(kd≠2/\kd≠3/\((dl=0/\cl=1/\fl=0)\/(dl≠0/\5000<(dl:Int)+ex/\cl=4/\fl=1)\/(dl≠0/\(dl:Int)+ex< -5100/\cl=1/\fl=2))))(h l:Int)(okb:Bool)(kP:∀v:World,Calls Tryz.prog 25 #[.int .i64 f,.agg #[.int .i64 cl,.bool ng,.int .u64 0,.int .u64 0,.int .i64 0]] v fun e w'=>e=.returned (.tuple #[.agg #[.int .u64 h,.int .u64 l],.bool okb])/\Below v.heap.size v w'):
 Calls Tryz.prog 7 #[.int .i64 f,.slice ao n c] w fun e w'=>e=.returned (.agg #[.int .u64 h,.int .u64 l,.int .i64 0,.int .i64 0,.int .i64 fl])/\Below w.heap.size w w':=by
 simp only[dv]at kE;have hp1:¬(F.p:Int)=0:=by omega
 subst hcd;have HC:=hid hcase;clear hcase;have b0:Below w.heap.size w (w.alloc (.cells dS 29)):=(Below.refl _ _).alloc (Nat.le_refl _) _;have c0:Cls (w.alloc (.cells dS 29)) w.heap.size dS 29:=Cls.new _ _ _;have fd:=jQ;go_enter Tryz.func7,Tryz.ntmps7;go_wp2_with fail;refine(kE _).mono ?_;rintro e v1 ⟨rfl,hb⟩;replace b0:=b0.trans (hb.mono b0.size);replace c0:=c0.below hb;clear hb;go_wp2_with fail;refine(kS _ b0).mono ?_;rintro e v2 ⟨a,cc,rfl,ho,hb⟩;obtain⟨v3,ev3,cs,hb2,-⟩:=eE v2 #[.int .i64 kd,.bool ng,.slice a dl cc,.int .i64 ex,.int .i64 0,.int .i64 off] 34;replace ev3:=hid ev3;replace ho:=okB _ _ _ _ ho hb2;replace hb:=hb.trans (hb2.mono hb.size);replace b0:=b0.trans (hb.mono b0.size);replace c0:=c0.below hb;clear hb hb2;go_upto_region 4 with fail;rw[ev3.out];clear ev3;generalize v2.heap.size=gs at*;have s0:=cs.cell 0 rfl;have s1:=cs.cell 1 rfl;have s2:=cs.cell 2 rfl;have s3:=cs.cell 3 rfl;have s4:=cs.cell 4 rfl;have s5:=cs.cell 5 rfl;obtain⟨v4,ev4,cD,hb,-⟩:=eE v3 #[.int .i64 kd,.bool ng,.slice a dl cc,.int .i64 ex] 32;replace ev4:=hid ev4;replace ho:=okB _ _ _ _ ho hb;replace b0:=b0.trans (hb.mono b0.size);replace c0:=c0.below hb;clear hb;go_upto_region 9 with fail;rw[ev4.out];clear ev4;generalize v3.heap.size=gd at*;have t0:=cD.cell 0 rfl;have t1:=cD.cell 1 rfl;have t2:=cD.cell 2 rfl;have t3:=cD.cell 3 rfl;go_upto_block 0 with fail
 go_cut[6,7] (fun p q wx=>p=.int .i64 cl/\q=.int .i64 fl/\wx=v4)
 case first=>
  rcases HC.out with⟨rfl,rfl,rfl⟩|⟨rfl,rfl,rfl⟩|⟨k2,k3,hc⟩
  . go_wp2_with fail;go_meet
    case rel=>exact⟨rfl,rfl,rfl⟩
  . go_wp2_with fail;go_meet
    case rel=>exact⟨rfl,rfl,rfl⟩
  . rcases hc with⟨d0,rfl,rfl⟩|⟨d0,q,rfl,rfl⟩|⟨d0,q,rfl,rfl⟩
    . have d1:((dl:Int)==0)=true:=by simp[d0]
      clear d0;go_wp2_with fail;go_meet
      case rel=>exact⟨rfl,rfl,rfl⟩
    . have d1:¬(dl:Int)=0:=by omega
      go_wp2_with fail;go_meet
      case rel=>exact⟨rfl,rfl,rfl⟩
    . have d1:¬(dl:Int)=0:=by omega
      have q1:¬5000<(dl:Int)+ex:=by omega
      go_wp2_with fail;go_meet
      case rel=>exact⟨rfl,rfl,rfl⟩
 case rest=>
 rename World=>vq
 obtain⟨rfl,rfl,rfl⟩:=hcut;go_wp2_with fail;refine(kP _).mono ?_;rintro e v5 ⟨rfl,hb⟩;obtain⟨v6,ev6,cW,hb2,-⟩:=eE v5 #[.int .u64 h,.int .u64 l] 27;replace ev6:=hid ev6;replace hb:=hb.trans (hb2.mono hb.size);replace b0:=b0.trans (hb.mono b0.size);replace c0:=c0.below hb;clear hb hb2 s0 s1 s2 s3 s4 s5 t0 t1 t2 t3;go_upto_region 28 with fail;rw[ev6.out];clear ev6;generalize v5.heap.size=gw at*;have y0:=cW.cell 0 rfl;have y1:=cW.cell 1 rfl;have RB:=hid (iS b0 _ (Nat.le_refl _) (.int .u64 h) (.int .u64 l) (.int .i64 0) (.int .i64 0) (.int .i64 fl));have x0:=c0.cell 0 rfl;have x1:=c0.cell 1 rfl;have x2:=c0.cell 2 rfl;have x3:=c0.cell 3 rfl;have x4:=c0.cell 4 rfl;have z0:=c0.frozen 0;have z1:=c0.frozen 1;have z2:=c0.frozen 2;have z3:=c0.frozen 3;have z4:=c0.frozen 4;clear b0 c0;go_wp2_with fail;exact bodyPost_ret (v:=.agg #[.int .u64 h,.int .u64 l,.int .i64 0,.int .i64 0,.int .i64 fl]) (by simp[results,Tryz.results7,go_sem,x0,x1,x2,x3,x4]) rfl ⟨rfl,RB.out⟩

theorem sN (f:Int)(ao:Option Addr)(n c:Nat)(w:World)(F:M.Fm)(hp0:F.p≠0)
 (kE:∀v:World,Calls Tryz.prog 9 #[.int .i64 f] v fun e w'=>e=.returned (dv F)/\Below v.heap.size v w')
 (kd:Int)(ng:Bool)(dl:Nat)(ex cd off:Int)(he1:-2000000<=ex)(he2:ex<=2000000)(hdl:dl<=10000)(OK:World->Option Addr->Nat->Prop)(okB:∀v v' a k,OK v a k->Below v.heap.size v v'->OK v' a k)
 (kS:∀v:World,Below w.heap.size w v->Calls Tryz.prog 8 #[.slice ao n c] v fun e w'=>∃a cc,e=.returned (.agg #[.int .i64 kd,.bool ng,.slice a dl cc,.int .i64 ex,.int .i64 cd,.int .i64 off])/\OK w' a cc/\Below v.heap.size v w')
 (hcd:cd=0)(hk:kd≠2)(hk3:kd≠3)(hd0:dl≠0)(hpl:¬5000<(dl:Int)+ex)(hpl2:¬(dl:Int)+ex< -5100)(N0 T NN DD:Nat)(tx:Int)(hcase:(0<=ex/\tx=ex/\NN=N0*T/\DD=1)\/(ex<0/\tx= -ex/\NN=N0/\DD=T))(lN0:(D N0).length<=1048576)(lT:(D T).length<=1048576)(h l fl:Int)
 (kD:∀(v:World) a cc,OK v a cc->Calls Tryz.prog 20 #[.slice a dl cc] v fun e w'=>Ret v w' e (D N0))
 (kT:∀v:World,Calls Tryz.prog 23 #[.int .i64 tx] v fun e w'=>Ret v w' e (D T))
 (kR:∀(v:World)(a1 b1:Option Addr)(c1 d1:Nat),(D NN).length<=c1->Rd v a1 (D NN)->Rd v b1 (D DD)->Calls Tryz.prog 24 #[.int .i64 f,.bool ng,.slice a1 (D NN).length c1,.slice b1 (D DD).length d1] v fun e w'=>e=.returned (.agg #[.int .u64 h,.int .u64 l,.int .i64 fl,.bool true])/\Below v.heap.size v w'):
 Calls Tryz.prog 7 #[.int .i64 f,.slice ao n c] w fun e w'=>e=.returned (.agg #[.int .u64 h,.int .u64 l,.int .i64 0,.int .i64 0,.int .i64 fl])/\Below w.heap.size w w':=by
 simp only[dv]at kE;have hp1:¬(F.p:Int)=0:=by omega
 subst hcd;have hd0':¬(dl:Int)=0:=by omega
 have HC:=hid hcase;clear hcase;have b0:Below w.heap.size w (w.alloc (.cells dS 29)):=(Below.refl _ _).alloc (Nat.le_refl _) _;have c0:Cls (w.alloc (.cells dS 29)) w.heap.size dS 29:=Cls.new _ _ _;have fd:=jQ;go_enter Tryz.func7,Tryz.ntmps7;go_wp2_with fail;refine(kE _).mono ?_;rintro e v1 ⟨rfl,hb⟩;replace b0:=b0.trans (hb.mono b0.size);replace c0:=c0.below hb;clear hb;go_wp2_with fail;refine(kS _ b0).mono ?_;rintro e v2 ⟨a,cc,rfl,ho,hb⟩;obtain⟨v3,ev3,cs,hb2,-⟩:=eE v2 #[.int .i64 kd,.bool ng,.slice a dl cc,.int .i64 ex,.int .i64 0,.int .i64 off] 34;replace ev3:=hid ev3;replace ho:=okB _ _ _ _ ho hb2;replace hb:=hb.trans (hb2.mono hb.size);replace b0:=b0.trans (hb.mono b0.size);replace c0:=c0.below hb;clear hb hb2;go_upto_region 4 with fail;rw[ev3.out];clear ev3;generalize v2.heap.size=gs at*;have s0:=cs.cell 0 rfl;have s1:=cs.cell 1 rfl;have s2:=cs.cell 2 rfl;have s3:=cs.cell 3 rfl;have s4:=cs.cell 4 rfl;have s5:=cs.cell 5 rfl;obtain⟨v4,ev4,cD,hb,-⟩:=eE v3 #[.int .i64 kd,.bool ng,.slice a dl cc,.int .i64 ex] 32;replace ev4:=hid ev4;replace ho:=okB _ _ _ _ ho hb;replace b0:=b0.trans (hb.mono b0.size);replace c0:=c0.below hb;clear hb;go_upto_region 9 with fail;rw[ev4.out];clear ev4;generalize v3.heap.size=gd at*;have t0:=cD.cell 0 rfl;have t1:=cD.cell 1 rfl;have t2:=cD.cell 2 rfl;have t3:=cD.cell 3 rfl;go_wp2_with fail;refine(kD _ _ _ ho).mono ?_;rintro e v5 ⟨a5,c5,rfl,o5,hb⟩;have r5:=Rd.own o5;replace b0:=b0.trans (hb.mono b0.size);replace c0:=c0.below hb;replace cD:=cD.below hb;clear hb s0 s1 s2 s3 s4 s5 t0 t1 t2 t3;go_wp2_with fail;refine(aU 1 _ (by omega)).mono ?_;rintro e v6 ⟨a6,c6,rfl,o6,hb⟩;have r6:=Rd.own o6;replace r5:=r5.below hb;replace o5:=cH o5 hb;replace b0:=b0.trans (hb.mono b0.size);replace c0:=c0.below hb;replace cD:=cD.below hb;clear hb;have t0:=cD.cell 0 rfl;have t1:=cD.cell 1 rfl;have t2:=cD.cell 2 rfl;have t3:=cD.cell 3 rfl;have HO:=hid (bF o5);clear o5 o6;go_upto_if 44 with fail
 go_cut[10,11] (fun p q wx=>∃(a8:Option Addr)(c8:Nat)(b8:Option Addr)(d8:Nat),p=.slice a8 (D NN).length c8/\q=.slice b8 (D DD).length d8/\(D NN).length<=c8/\Rd wx a8 (D NN)/\Rd wx b8 (D DD)/\Below v6.heap.size v6 wx)
 case first=>
  rcases HC.out with⟨hx,rfl,rfl,rfl⟩|⟨hx,rfl,rfl,rfl⟩
  . go_wp2_with fail;refine(kT _).mono ?_;rintro e v7 ⟨a7,c7,rfl,o7,hb⟩;have r7:=Rd.own o7;replace r5:=r5.below hb;go_wp2_with fail;refine(cI a5 a7 _ _ c5 c7 N0 T _ rfl rfl lN0 lT r5 r7).mono ?_;rintro e v8 ⟨a8,c8,rfl,o8,hb8⟩;have H8:=hid (And.intro (bF o8) (And.intro (Rd.own o8) (And.intro ((r6.below hb).below hb8) (hb.trans (hb8.mono hb.size)))));clear o7 o8 hb hb8 r5 r6 r7;go_wp2_with fail;go_meet
    case rel=>exact⟨a8,c8,a6,c6,rfl,rfl,H8.out⟩
  . have hx':¬0<=ex:=by omega
    have wn:IntKind.i64.wrap (-ex)= -ex:=by rw[IntKind.wrap_i64];omega
    go_wp2_with fail;refine(kT _).mono ?_;rintro e v7 ⟨a7,c7,rfl,o7,hb⟩;have H8:=hid (And.intro HO.out (And.intro (r5.below hb) (And.intro (Rd.own o7) hb)));clear o7 hb r5 r6;go_wp2_with fail;go_meet
    case rel=>exact⟨a5,c5,a7,c7,rfl,rfl,H8.out⟩
 case rest=>
 rename World=>v8
 obtain⟨a8,c8,b8,d8,rfl,rfl,hc8,r8,r6',hb⟩:=hcut;clear r5 r6 kT kD;replace b0:=b0.trans (hb.mono b0.size);replace c0:=c0.below hb;replace cD:=cD.below hb;clear hb t0 t1 t2 t3;have t0:=cD.cell 0 rfl;have t1:=cD.cell 1 rfl;have t2:=cD.cell 2 rfl;have t3:=cD.cell 3 rfl;go_wp2_with fail;refine(kR _ _ _ _ _ hc8 r8 r6').mono ?_;rintro e v9 ⟨rfl,hb⟩;obtain⟨v10,ev10,cR,hb2,-⟩:=eE v9 #[.int .u64 h,.int .u64 l,.int .i64 fl,.bool true] 62;replace ev10:=hid ev10;replace hb:=hb.trans (hb2.mono hb.size);replace b0:=b0.trans (hb.mono b0.size);replace c0:=c0.below hb;clear hb hb2 t0 t1 t2 t3;go_upto_region 16 with fail;rw[ev10.out];clear ev10;generalize v9.heap.size=gr at*;have y0:=cR.cell 0 rfl;have y1:=cR.cell 1 rfl;have y2:=cR.cell 2 rfl;have y3:=cR.cell 3 rfl;have RB:=hid (iS b0 _ (Nat.le_refl _) (.int .u64 h) (.int .u64 l) (.int .i64 0) (.int .i64 0) (.int .i64 fl));have x0:=c0.cell 0 rfl;have x1:=c0.cell 1 rfl;have x2:=c0.cell 2 rfl;have x3:=c0.cell 3 rfl;have x4:=c0.cell 4 rfl;have z0:=c0.frozen 0;have z1:=c0.frozen 1;have z2:=c0.frozen 2;have z3:=c0.frozen 3;have z4:=c0.frozen 4;clear b0 c0;go_wp2_with fail;exact bodyPost_ret (v:=.agg #[.int .u64 h,.int .u64 l,.int .i64 0,.int .i64 0,.int .i64 fl]) (by simp[results,Tryz.results7,go_sem,x0,x1,x2,x3,x4]) rfl ⟨rfl,RB.out⟩

theorem qR (n P K:Nat){k:Nat}(hK:4*n<32*K)(h:P*10^k=10^n):(D P).length<=K:=by
 have h1:P<=10^n:=by rw[<-h];exact Nat.le_mul_of_pos_right _ (Nat.pow_pos (by omega))
 have h2:=Nat.lt_of_le_of_lt (Nat.le_trans h1 (jP 10 n)) (Nat.pow_lt_pow_right (by omega) (show aB 10*n<32*K by rw[vP];omega));refine M.len_of_lt (B:=4294967296) (by omega) _ _ ?_;rw[show(4294967296:Nat)=2^32 by rfl,<-Nat.pow_mul];exact h2

theorem dO (n:Nat)(w:World)(hn:n<=19000):
 Calls Tryz.prog 23 #[.int .i64 (n:Int)] w fun e w'=>Ret w w' e (D (10^n)):=by
 go_enter Tryz.func23,Tryz.ntmps23;go_wp2_with fail;refine(aU 1 _ (by omega)).mono ?_;rintro r w3 ⟨p1,c1,rfl,ho1,hb3⟩;have hD1:(D 1).length<=2401:=by have:=M.len_of_lt (B:=4294967296) (by omega) 1 1 (by omega);have h2:(D 1).length<=1:=this;omega
 go_wp2_with fail
 go_loopw [0,3] (fun i v wr=>∃(k P:Nat)(pp:Option Addr)(pc:Nat),k<=n/\i=.int .i64 (k:Int)/\Hid (P*10^k=10^n)/\v=.slice pp (D P).length pc/\(D P).length<=2401/\wr.ownsRow w.heap.size 25 1 (.slice pp (D P).length pc) (D P).length (U (D P))/\Below w.heap.size w wr) (fun i _ _=>(intOf i).toNat)
 case atStart=>exact⟨n,1,p1,c1,by omega,rfl,hid (by simp),rfl,hD1,ho1,hb3⟩
 case round=>
  obtain⟨k,P,pp,pc,hk,rfl,HP,rfl,hPl,hown,hbl⟩:=hrel;clear ho1 hb3 hD1
  by_cases hke:9<=k
  . have hgt:(9:Int)<=(k:Int):=by omega
    obtain⟨k,rfl⟩:∃k',k=k'+9:=⟨k-9,by omega⟩;have hHP:P*1000000000*10^k=10^n:=by rw[<-HP.out,Nat.pow_add,Nat.mul_assoc,Nat.mul_comm 1000000000]
    have hPl2:(D (P*1000000000)).length<=2401:=qR n _ 2401 (by omega) hHP;have HP2:=hid hHP;clear hHP;go_wp2_with fail;refine(fE pp _ pc 1000000000 P _ rfl (by omega) (by omega) (Rd.own hown)).mono ?_;rintro r w4 ⟨p2,c2,rfl,ho4,hb4⟩;have hbw4:=hbl.trans (hb4.mono hbl.size);have how4:=aM ho4 hbl.size;clear ho4 hb4 hown hbl;go_wp2_with fail;go_roundw
    case rel=>
     have R:∃(k1 P1:Nat)(pp1:Option Addr)(pc1:Nat),k1<=n/\Value.int .i64 ((k:Int)+9-9)=.int .i64 (k1:Int)/\Hid (P1*10^k1=10^n)/\Value.slice p2 (D (P*1000000000)).length c2=.slice pp1 (D P1).length pc1/\(D P1).length<=2401/\w4.ownsRow w.heap.size 25 1 (.slice pp1 (D P1).length pc1) (D P1).length (U (D P1))/\Below w.heap.size w w4:=
      ⟨k,P*1000000000,p2,c2,by omega,by go_num,HP2,rfl,hPl2,how4,hbw4⟩
     first|exact R|((repeat apply Exists.intro);exact⟨R,rfl⟩)|(simp only[Int.add_sub_cancel]at R|-;exact R)
    case measure=>simp[intOf];omega
  . have hgt:¬(9:Int)<=(k:Int):=by omega
    have R0:∃(k1 P1:Nat)(pp1:Option Addr)(pc1:Nat),k1<=n/\Value.int .i64 (k:Int)=.int .i64 (k1:Int)/\Hid (P1*10^k1=10^n)/\Value.slice pp (D P).length pc=.slice pp1 (D P1).length pc1/\(D P1).length<=2401/\wr.ownsRow w.heap.size 25 1 (.slice pp1 (D P1).length pc1) (D P1).length (U (D P1))/\Below w.heap.size w wr:=⟨k,P,pp,pc,hk,rfl,HP,rfl,hPl,hown,hbl⟩;have HR:=hid R0;clear R0 hPl hown hbl HP;go_wp2_with fail
    go_loopw [0,3] (fun i v wr=>∃(k P:Nat)(pp:Option Addr)(pc:Nat),k<=n/\i=.int .i64 (k:Int)/\Hid (P*10^k=10^n)/\v=.slice pp (D P).length pc/\(D P).length<=2401/\wr.ownsRow w.heap.size 25 1 (.slice pp (D P).length pc) (D P).length (U (D P))/\Below w.heap.size w wr) (fun i _ _=>(intOf i).toNat)
    case atStart=>exact HR.out
    case round=>
     obtain⟨k,P,pp,pc,hk,rfl,HP,rfl,hPl,hown,hbl⟩:=hrel
     by_cases hk0:1<=k
     . have hgt:(1:Int)<=(k:Int):=by omega
       obtain⟨k,rfl⟩:∃k',k=k'+1:=⟨k-1,by omega⟩;have hHP:P*10*10^k=10^n:=by rw[<-HP.out,Nat.pow_add,Nat.mul_assoc,Nat.mul_comm 10]
       have hPl2:(D (P*10)).length<=2401:=qR n _ 2401 (by omega) hHP;have HP2:=hid hHP;clear hHP;go_wp2_with fail;refine(fE pp _ pc 10 P _ rfl (by omega) (by omega) (Rd.own hown)).mono ?_;rintro r w4 ⟨p2,c2,rfl,ho4,hb4⟩;have hbw4:=hbl.trans (hb4.mono hbl.size);have how4:=aM ho4 hbl.size;clear ho4 hb4 hown hbl;go_wp2_with fail;go_roundw
       case rel=>
        have R:∃(k1 P1:Nat)(pp1:Option Addr)(pc1:Nat),k1<=n/\Value.int .i64 ((k:Int)+1-1)=.int .i64 (k1:Int)/\Hid (P1*10^k1=10^n)/\Value.slice p2 (D (P*10)).length c2=.slice pp1 (D P1).length pc1/\(D P1).length<=2401/\w4.ownsRow w.heap.size 25 1 (.slice pp1 (D P1).length pc1) (D P1).length (U (D P1))/\Below w.heap.size w w4:=
         ⟨k,P*10,p2,c2,by omega,by go_num,HP2,rfl,hPl2,how4,hbw4⟩
        first|exact R|((repeat apply Exists.intro);exact⟨R,rfl⟩)|(simp only[Int.add_sub_cancel]at R|-;exact R)
       case measure=>simp[intOf]
     . have hgt0:¬(0:Int)<(k:Int):=by omega
       go_wp2_with fail;go_ret;have hk1:k=0:=by omega
       subst hk1;have hE:=HP.out;rw[Nat.pow_zero,Nat.mul_one]at hE;rw[<-hE];exact⟨pp,pc,rfl,hown,hbl⟩

theorem qS (N p K:Nat)(h:(D N).length<=K):(D (N*2^p)).length<=K+(p+31)/32:=by
 have h1:=mZ N K h;refine M.len_of_lt (B:=4294967296) (by omega) _ _ ?_;rw[Nat.pow_add]
 have h2:2^p<=4294967296^((p+31)/32):=by
  rw[show(4294967296:Nat)=2^32 by rfl,<-Nat.pow_mul];exact Nat.pow_le_pow_right (by omega) (by omega)
 exact Nat.lt_of_le_of_lt (Nat.mul_le_mul_left _ h2) (Nat.mul_lt_mul_of_pos_right h1 (Nat.pow_pos (by omega)))

theorem xO (a b:Nat):decide (aY (a:Int) (b:Int)<0)=decide (a<b):=by
 unfold aY;rw[Bool.eq_iff_iff];simp only[decide_eq_true_eq];split
 . omega
 . split<;>omega

theorem zE (ao bo:Option Addr)(n m c d N De:Nat)(e:Int)(w:World)(hl:(D N).length=n)(hm:(D De).length=m)(hn:n<=2600)(hm2:m<=2600)(he1:-90000<=e)(he2:e<=90000)(hr:Rd w ao (D N))(hr2:Rd w bo (D De))(r:Bool)(hrr:r=decide (M.lt2 N De e)):
 Calls Tryz.prog 57 #[.slice ao n c,.slice bo m d,.int .i64 e] w fun x w'=>x=.returned (.bool r)/\Below w.heap.size w w':=by
 rcases(by omega:e<0\/0<=e)with h|h;rotate_left
 . obtain⟨s,rfl⟩:=Int.eq_ofNat_of_zero_le h;have hs:s<=100000:=by omega
   have hd:=qS De s 2600 (by omega)
   have hr':r=decide (aY (N:Int) ((De*2^s:Nat):Int)<0):=by
    rw[hrr,xO];unfold M.lt2;congr 1;rw[show(-(s:Int)).toNat=0 by omega,show((s:Nat):Int).toNat=s by omega,Nat.pow_zero,Nat.mul_one]
   have HR:=hid hr';clear hr' hrr;go_enter Tryz.func57,Tryz.ntmps57;go_wp2_with fail;refine(aN bo m d s De _ hm (by omega) hs hr2).mono ?_;rintro e v1 ⟨b1,c1,rfl,o1,hb1⟩;go_wp2_with fail;refine(dM ao b1 n _ c c1 N (De*2^s) _ hl rfl (by omega) (by omega) (hr.below hb1) (Rd.own o1)).mono ?_;rintro e v2 ⟨rfl,rfl⟩;have HB:=hid hb1;clear hb1;go_wp2_with fail;go_ret;exact⟨by rw[HR.out];push_cast;rfl,HB.out⟩
 . obtain⟨s,hs0⟩:∃s:Nat,e= -(s:Int):=⟨(-e).toNat,by omega⟩;subst hs0;have hs:s<=100000:=by omega
   have hd:=qS N s 2600 (by omega);have hng:¬(0:Int)<= -(s:Int):=by omega
   have hr':r=decide (aY ((N*2^s:Nat):Int) (De:Int)<0):=by
    rw[hrr,xO];unfold M.lt2;congr 1;rw[show(- -(s:Int)).toNat=s by omega,show(-(s:Int)).toNat=0 by omega,Nat.pow_zero,Nat.mul_one]
   have HR:=hid hr';clear hr' hrr;have w1:IntKind.i64.wrap (- -(s:Int))=(s:Int):=by rw[IntKind.wrap_i64];omega
   have w2:IntKind.i64.wrap ((s:Int))=(s:Int):=by rw[IntKind.wrap_i64];omega
   go_enter Tryz.func57,Tryz.ntmps57;go_wp2_with fail;refine(aN ao n c s N _ hl (by omega) hs hr).mono ?_;rintro e v1 ⟨b1,c1,rfl,o1,hb1⟩;go_wp2_with fail;refine(dM b1 bo _ m c1 d (N*2^s) De _ rfl hm (by omega) (by omega) (Rd.own o1) (hr2.below hb1)).mono ?_;rintro e v2 ⟨rfl,rfl⟩;have HB:=hid hb1;clear hb1;go_wp2_with fail;go_ret;exact⟨by rw[HR.out];push_cast;rfl,HB.out⟩

end Go.Proofs.YtfdgkleoaehjaaaGreatDoor
