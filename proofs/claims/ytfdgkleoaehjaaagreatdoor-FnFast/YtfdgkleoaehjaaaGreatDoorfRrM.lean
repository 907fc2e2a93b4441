import Derived.Test.YtfdgkleoaehjaaaGreatDoorfGAC
namespace Go.Proofs.YtfdgkleoaehjaaaGreatDoor.M
set_option linter.unusedVariables false
set_option maxRecDepth 100000

def lt2 (N De:Nat)(e:Int):Prop:=N*2^(-e).toNat<De*2^e.toNat

instance (N De:Nat) (e:Int):Decidable (lt2 N De e):=by unfold lt2;infer_instance

theorem iG (N De:Nat)(e:Int)(K:Nat)(h:0<=(K:Int)+e):lt2 N De e↔N*2^K<De*2^((K:Int)+e).toNat:=by
 unfold lt2;rcases Int.le_total 0 e with he|he
 . rw[show(-e).toNat=0 by omega,show((K:Int)+e).toNat=e.toNat+K by omega,Nat.pow_add,<-Nat.mul_assoc,Nat.pow_zero,Nat.mul_one];exact(Nat.mul_lt_mul_right (Nat.pow_pos (by omega))).symm
 . rw[show e.toNat=0 by omega];have e1:K=(-e).toNat+((K:Int)+e).toNat:=by omega
   generalize((K:Int)+e).toNat=J at*;rw[e1,Nat.pow_add,<-Nat.mul_assoc,Nat.pow_zero,Nat.mul_one];exact(Nat.mul_lt_mul_right (Nat.pow_pos (by omega))).symm

theorem iY {N De:Nat}{e e':Int}(hd:0<De)(h:lt2 N De e)(he:e<=e'):lt2 N De e':=by
 rw[iG N De e (e.natAbs+e'.natAbs) (by omega)]at h;rw[iG N De e' (e.natAbs+e'.natAbs) (by omega)];refine Nat.lt_of_lt_of_le h (Nat.mul_le_mul_left _ (Nat.pow_le_pow_right (by omega) ?_));omega

def rE (N De:Nat):Int:=if lt2 N De ((aB N:Int)-aB De)then(aB N:Int)-aB De-1 else(aB N:Int)-aB De

theorem vI (N De:Nat)(hN:0<N)(hd:0<De):¬lt2 N De (rE N De)/\lt2 N De (rE N De+1):=by
 have a1:=dD N;have a2:=eF N hN;have a3:=dJ N hN;have b1:=dD De;have b2:=eF De hd;have b3:=dJ De hd
 have hi:lt2 N De ((aB N:Int)-aB De+1):=by
  rw[iG N De _ (aB De-1) (by omega),show(((aB De-1:Nat):Int)+((aB N:Int)-aB De+1)).toNat=aB N by omega];have h1:N*2^(aB De-1)<2^aB N*2^(aB De-1):=(Nat.mul_lt_mul_right (Nat.pow_pos (by omega))).2 a1;have h2:2^(aB De-1)*2^aB N<=De*2^aB N:=Nat.mul_le_mul_right _ b2;rw[Nat.mul_comm]at h2;omega
 have lo:¬lt2 N De ((aB N:Int)-aB De-1):=by
  rw[iG N De _ (aB De) (by omega),show((aB De:Int)+((aB N:Int)-aB De-1)).toNat=aB N-1 by omega];have h1:De*2^(aB N-1)<=2^aB De*2^(aB N-1):=Nat.mul_le_mul_right _ (by omega);have h2:2^aB De*2^(aB N-1)<=2^aB De*N:=Nat.mul_le_mul_left _ a2;rw[Nat.mul_comm _ N]at h2;omega
 unfold rE
 by_cases h:lt2 N De ((aB N:Int)-aB De)
 . rw[if_pos h];exact⟨lo,by rw[show(aB N:Int)-aB De-1+1=(aB N:Int)-aB De by omega];exact h⟩
 . rw[if_neg h];exact⟨h,hi⟩

def Fm.rQ (F:Fm)(N De:Nat):Int:=max (rE N De-F.p+1) F.qmin

def Fm.rN (F:Fm)(N De:Nat):Nat:=N*2^(-(F.rQ N De)).toNat

def Fm.rM (F:Fm)(N De:Nat):Nat:=De*2^(F.rQ N De).toNat

def rUp (n m:Nat):Nat:=if m<2*(n%m)\/(2*(n%m)=m/\n/m%2=1)then 1 else 0

def Fm.rS (F:Fm)(N De:Nat):Nat:=F.rN N De/F.rM N De+rUp (F.rN N De) (F.rM N De)

def Fm.rSig (F:Fm)(N De:Nat):Nat:=if F.rS N De=2^F.p then F.lead else F.rS N De

def Fm.rExp (F:Fm)(N De:Nat):Int:=if F.rS N De=2^F.p then F.rQ N De+1 else F.rQ N De

def Fm.rPt (F:Fm)(n:Bool)(N De:Nat):Pt:=
 if F.rSig N De=0 then⟨1,n,0,0⟩else if F.rSig N De<F.lead then⟨2,n,F.rSig N De,F.rExp N De⟩
 else if(F.emax:Int)<F.rExp N De+F.p-1 then⟨4,n,0,0⟩else⟨3,n,F.rSig N De,F.rExp N De⟩

def Fm.rFl (F:Fm)(N De:Nat)(tiny range:Int):Int:=
 if F.rSig N De=0 then tiny else if F.rSig N De<F.lead then tiny
 else if(F.emax:Int)<F.rExp N De+F.p-1 then range else 0

theorem Fm.Ok.rS_ok {F:Fm}(h:F.Ok)(N De:Nat)(hN:0<N)(hd:0<De):
 0<F.rM N De/\F.rN N De/F.rM N De<2^F.p/\(F.qmin<F.rQ N De->F.lead<=F.rN N De/F.rM N De):=by
 have hp:=h.p1;obtain⟨e1,e2⟩:=vI N De hN hd;have hM:0<F.rM N De:=Nat.mul_pos hd (Nat.pow_pos (by omega));have hq:F.rQ N De=max (rE N De-F.p+1) F.qmin:=rfl
 refine⟨hM,?_,fun hlt=>?_⟩
 . rw[Nat.div_lt_iff_lt_mul hM];have k:=iY (e':=F.rQ N De+F.p) hd e2 (by omega);rw[iG N De _ (-(F.rQ N De)).toNat (by omega),show(((-(F.rQ N De)).toNat:Int)+(F.rQ N De+F.p)).toNat=F.p+(F.rQ N De).toNat by omega,Nat.pow_add]at k
   show N*2^(-(F.rQ N De)).toNat<2^F.p*(De*2^(F.rQ N De).toNat)
   rw[Nat.mul_left_comm];exact k
 . have k:¬lt2 N De (F.rQ N De+F.p-1):=by
    rw[show F.rQ N De+F.p-1=rE N De by omega];exact e1
   rw[Nat.le_div_iff_mul_le hM];rw[iG N De _ (-(F.rQ N De)).toNat (by omega),show(((-(F.rQ N De)).toNat:Int)+(F.rQ N De+F.p-1)).toNat=(F.p-1)+(F.rQ N De).toNat by omega,Nat.pow_add]at k
   show 2^(F.p-1)*(De*2^(F.rQ N De).toNat)<=N*2^(-(F.rQ N De)).toNat
   rw[Nat.mul_left_comm];omega

theorem Fm.Ok.two_lead {F:Fm}(h:F.Ok):2^F.p=2*F.lead:=by
 have p1:=h.p1;unfold Fm.lead;rw[Nat.mul_comm,<-Nat.pow_succ];congr 1;omega

theorem PM (n m:Nat):rUp n m<=1:=by unfold rUp;split<;>omega

theorem Fm.Ok.rS_le {F:Fm}(h:F.Ok)(N De:Nat)(hN:0<N)(hd:0<De):F.rS N De<=2^F.p:=by
 have:=h.rS_ok N De hN hd;have:=PM (F.rN N De) (F.rM N De);unfold Fm.rS;omega

theorem Fm.Ok.rSig_lt {F:Fm}(h:F.Ok)(N De:Nat)(hN:0<N)(hd:0<De):F.rSig N De<2*F.lead:=by
 have h1:=h.rS_le N De hN hd;have h2:=h.two_lead;have h3:=h.leadPos;unfold Fm.rSig
 split<;>omega

theorem Fm.Ok.rLow {F:Fm}(h:F.Ok)(N De:Nat)(hN:0<N)(hd:0<De)(hs:F.rSig N De<F.lead):F.rExp N De=F.qmin/\F.rSig N De=F.rS N De/\F.rS N De≠2^F.p:=by
 have h1:=h.rS_ok N De hN hd;have h3:=h.leadPos;have h2:=h.two_lead;unfold Fm.rSig at hs
 by_cases hc:F.rS N De=2^F.p
 . rw[if_pos hc]at hs;omega
 . rw[if_neg hc]at hs;refine⟨?_,by unfold Fm.rSig;rw[if_neg hc],hc⟩;unfold Fm.rExp;rw[if_neg hc];have hq:F.rQ N De=max (rE N De-F.p+1) F.qmin:=rfl;have hle:F.rN N De/F.rM N De<=F.rS N De:=by unfold Fm.rS;omega
   by_cases hlt:F.qmin<F.rQ N De
   . have:=h1.2.2 hlt;omega
   . omega

theorem Fm.Ok.rPt_proper {F:Fm}(h:F.Ok)(n:Bool)(N De:Nat)(hN:0<N)(hd:0<De):F.Proper (F.rPt n N De):=by
 have h1:=h.rSig_lt N De hN hd;have h2:=h.rLow N De hN hd;have h3:=h.top2
 have h4:F.qmin<=F.rExp N De:=by
  have hq:F.rQ N De=max (rE N De-F.p+1) F.qmin:=rfl
  unfold Fm.rExp;split<;>omega
 have h5:F.qmin=2-(F.emax:Int)-(F.p:Int):=rfl;unfold Fm.rPt
 by_cases c1:F.rSig N De=0
 . rw[if_pos c1];exact .inl ⟨rfl,rfl,rfl⟩
 . rw[if_neg c1]
   by_cases c2:F.rSig N De<F.lead
   . rw[if_pos c2];exact .inr (.inr (.inr (.inl ⟨rfl,by simp only;omega,c2,(h2 c2).1⟩)))
   . rw[if_neg c2]
     by_cases c3:(F.emax:Int)<F.rExp N De+F.p-1
     . rw[if_pos c3];exact .inr (.inl ⟨rfl,rfl,rfl⟩)
     . rw[if_neg c3];exact .inr (.inr (.inr (.inr ⟨rfl,by simp only;omega,h1,by simp only;omega,by simp only;omega⟩)))

end Go.Proofs.YtfdgkleoaehjaaaGreatDoor.M
