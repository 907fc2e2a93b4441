import Derived.Test.YtfdgkleoaehjaaaGreatDoorfGAV
import Derived.Test.YtfdgkleoaehjaaaGreatDoorfGAZ
set_option maxHeartbeats 2000000
set_option maxRecDepth 10000
namespace Go.Proofs.YtfdgkleoaehjaaaGreatDoor
open Go.RowKit
set_option linter.unusedVariables false
set_option maxRecDepth 100000

def seY (F:M.Fm)(d:M.Dec):Nat:=if d.kind=2 then F.pk ⟨4,d.neg,0,0⟩else if d.kind=3 then F.pk ⟨5,false,0,0⟩else F.pk ⟨1,d.neg,0,0⟩

def seO (F:M.Fm)(o:M.Dec×Int×Int):Nat×Int×Int:=if o.2.1≠0 then(0,o.2.1,o.2.2)else(seY F o.1,0,0)

def seV (F:M.Fm)(o:M.Dec×Int×Int):Value:=.agg #[.int .u64 (M.hiN (seO F o).1:Int),.int .u64 (M.loN (seO F o).1:Int),.int .i64 (seO F o).2.1,.int .i64 (seO F o).2.2,.int .i64 0]

theorem sB (bs:List Nat):((aC bs).2.1≠0/\(aC bs).1=⟨0,false,[],0⟩)\/
 ∃d,aC bs=(d,0,0)/\M.whole bs=some d/\bs.length<=800:=by
 unfold aC
 by_cases h8:800<bs.length
 . rw[if_pos h8];exact .inl ⟨by decide,rfl⟩
 . rw[if_neg h8];unfold M.vG
   cases hw:M.whole bs with
   |none=>exact .inl ⟨by simp,rfl⟩
   |some d=>exact .inr ⟨d,rfl,rfl,by omega⟩

def nQ (bs:List Nat)(d:M.Dec):Prop:=aC bs=(d,0,0)/\M.Sound bs d/\d.kind=1/\0<d.digits.length/\d.digits.length<=800/\bs.length<=800

theorem vO (f:Nat)(hf:f<4)(c:Int)(n:Bool)(h:(M.fm f).Proper ⟨c,n,0,0⟩)(w:World):
 Calls Tryz.prog 25 #[.int .i64 (f:Int),.agg #[.int .i64 c,.bool n,.int .u64 0,.int .u64 0,.int .i64 0]] w fun e w'=>e=.returned (.tuple #[.agg #[.int .u64 (M.hiN ((M.fm f).pk ⟨c,n,0,0⟩):Int),.int .u64 (M.loN ((M.fm f).pk ⟨c,n,0,0⟩):Int)],.bool true])/\Below w.heap.size w w':=by
 have:=mC f hf c n 0 (Nat.pow_pos (by omega)) 0 (by omega) (by omega) w;simp only[hi0,lo0]at this;unfold wY at this;rw[if_pos h,decide_eq_true h]at this;exact this

theorem AY (k:Nat)(hk:k<4)(ao:Option Addr)(n c:Nat)(bs:List Nat)(w:World)(hl:bs.length=n)(hr:RdB w ao bs)(hm:Fmt w)(hF:Fol w)(hWd:Wds w):
 ((¬ ∃d,nQ bs d)/\∃(kd:Int)(ng:Bool)(dl:Nat)(ex:Int),∀v:World,Below w.heap.size w v->Calls Tryz.prog 17 #[.int .i64 (k:Int),.slice ao n c] v fun e w'=>∃a cc,e=.returned (.tuple #[.agg #[.int .i64 kd,.bool ng,.slice a dl cc,.int .i64 ex],seV (M.fm k) (aC bs),.bool true])/\Below v.heap.size v w')
 \/ ∃d,nQ bs d/\∀v:World,Below w.heap.size w v->Calls Tryz.prog 17 #[.int .i64 (k:Int),.slice ao n c] v fun e w'=>∃a cc,e=.returned (.tuple #[.agg #[.int .i64 d.kind,.bool d.neg,.slice a d.digits.length cc,.int .i64 d.exp],.agg #[.int .u64 0,.int .u64 0,.int .i64 0,.int .i64 0,.int .i64 0],.bool false])/\OwnV w' 0 (.slice a d.digits.length cc) d.digits/\Below v.heap.size v w':=by
 have h:=M.iM k
 have kE:=fun(v:World)(hv:Fmt v)=>j4 k hk v hv
 have kK:=fun(v:World)=>IH (M.fm k) h v
 have kS:∀(u:World),Below w.heap.size w u->∀v:World,Below u.heap.size u v->Calls Tryz.prog 47 #[.slice ao n c] v fun e w'=>∃a cc,e=.returned (.agg #[.int .i64 (aC bs).1.kind,.bool (aC bs).1.neg,.slice a (aC bs).1.digits.length cc,.int .i64 (aC bs).1.exp,.int .i64 (aC bs).2.1,.int .i64 (aC bs).2.2])/\OwnV w' v.heap.size (.slice a (aC bs).1.digits.length cc) (aC bs).1.digits/\Below v.heap.size v w':=fun u hu v hv=>by
  have hv2:=hu.trans (hv.mono hu.size);refine(uL ao n c bs v hl (hr.below hv2) (hF.below hv2) (hWd.below hv2) _ rfl).mono ?_;rintro e w' ⟨x,rfl,hO,hb⟩;have hO':=hO;obtain⟨a,c',hx,_⟩:=hO;subst hx;exact⟨a,c',rfl,hO',hb⟩
 rcases sB bs with⟨h1,h2⟩|⟨d,h1,h2,h3⟩
 . refine .inl ⟨fun⟨d,hd⟩=>h1 (by rw[hd.1]),0,false,0,0,fun u hu=>?_⟩
   unfold seV seO;rw[if_pos h1];generalize aC bs=o at*;obtain⟨d,cd,off⟩:=o;simp only at h1 h2 kS;subst h2;simp only[hi0,lo0]
   refine(r9 (k:Int) ao n c u (hm.below hu) (M.fm k) kE kK 0 false 0 0 cd off (fun v lo a k=>OwnV v lo (.slice a 0 k) []) (fun _ _ _ _ _ h hb=>h.below hb) (fun _ _ _ _ p x h hp=>h.far p hp x) (fun _ _ _ _ _ h hl=>h.low hl) h1 (fun v hv=>kS u hu v hv)).mono ?_
   rintro e w' ⟨rfl,hb⟩;exact⟨none,0,rfl,hb⟩
 . have hs:=M.dY h2;have hkd:=M.fY h2
   have nf:¬(d.kind=1/\0<d.digits.length)->¬ ∃d,nQ bs d:=fun hn ⟨d',g1,_,g2,g3,_⟩=>by
    rw[h1]at g1;have:d=d':=by injection g1
    subst this;exact hn ⟨g2,g3⟩
   have pk0:∀(cl:Int)(ng:Bool),(M.fm k).Proper ⟨cl,ng,0,0⟩->∀u:World,Calls Tryz.prog 48 #[dv (M.fm k),.agg #[.int .i64 cl,.bool ng,.int .u64 0,.int .u64 0,.int .i64 0]] u fun e w'=>e=.returned (.agg #[.int .u64 (M.hiN ((M.fm k).pk ⟨cl,ng,0,0⟩):Int),.int .u64 (M.loN ((M.fm k).pk ⟨cl,ng,0,0⟩):Int)])/\Below u.heap.size u w':=fun cl ng hp u=>by
    have kP:=uV (M.fm k) h cl ng 0 0 (by omega) u;have e:=o9 h ⟨cl,ng,0,0⟩ hp;simp only at e;rw[e]at kP;simp only[hi0,lo0]at kP;exact kP
   unfold seV seO seY;rw[h1]at kS|-;simp only at kS;simp only[ne_eq,not_true_eq_false,if_false]
   by_cases hk2:d.kind=2
   . refine .inl ⟨nf (fun hh=>by omega),d.kind,d.neg,d.digits.length,d.exp,fun u hu=>?_⟩
     rw[if_pos hk2]
     refine(gY (k:Int) ao n c u (hm.below hu) (M.fm k) kE kK d.kind d.neg d.digits.length d.exp 0 0 (fun v lo a k=>OwnV v lo (.slice a d.digits.length k) d.digits) (fun _ _ _ _ _ h hb=>h.below hb) (fun _ _ _ _ p x h hp=>h.far p hp x) (fun _ _ _ _ _ h hl=>h.low hl) rfl _ _ (.inl ⟨hk2,rfl,rfl⟩) _ _ (pk0 4 d.neg (by unfold M.Fm.Proper;simp)) (fun v hv=>kS u hu v hv)).mono ?_
     rintro e w' ⟨a,c',rfl,_,hb⟩;exact⟨a,c',rfl,hb⟩
   rw[if_neg hk2]
   by_cases hk3:d.kind=3
   . refine .inl ⟨nf (fun hh=>by omega),d.kind,d.neg,d.digits.length,d.exp,fun u hu=>?_⟩
     rw[if_pos hk3]
     refine(gY (k:Int) ao n c u (hm.below hu) (M.fm k) kE kK d.kind d.neg d.digits.length d.exp 0 0 (fun v lo a k=>OwnV v lo (.slice a d.digits.length k) d.digits) (fun _ _ _ _ _ h hb=>h.below hb) (fun _ _ _ _ p x h hp=>h.far p hp x) (fun _ _ _ _ _ h hl=>h.low hl) rfl _ _ (.inr (.inl ⟨hk3,rfl,rfl⟩)) _ _ (pk0 5 false (by unfold M.Fm.Proper;simp)) (fun v hv=>kS u hu v hv)).mono ?_
     rintro e w' ⟨a,c',rfl,_,hb⟩;exact⟨a,c',rfl,hb⟩
   rw[if_neg hk3]
   by_cases hd0:d.digits.length=0
   . refine .inl ⟨nf (fun hh=>by omega),d.kind,d.neg,d.digits.length,d.exp,fun u hu=>?_⟩
     refine(gY (k:Int) ao n c u (hm.below hu) (M.fm k) kE kK d.kind d.neg d.digits.length d.exp 0 0 (fun v lo a k=>OwnV v lo (.slice a d.digits.length k) d.digits) (fun _ _ _ _ _ h hb=>h.below hb) (fun _ _ _ _ p x h hp=>h.far p hp x) (fun _ _ _ _ _ h hl=>h.low hl) rfl _ _ (.inr (.inr ⟨hk2,hk3,hd0,rfl,rfl⟩)) _ _ (pk0 1 d.neg (by unfold M.Fm.Proper;simp)) (fun v hv=>kS u hu v hv)).mono ?_
     rintro e w' ⟨a,c',rfl,_,hb⟩;exact⟨a,c',rfl,hb⟩
   have hk1:d.kind=1/\d.digits.length<=bs.length:=by
    rcases hkd with x|x|x
    . exact x
    . omega
    . omega
   refine .inr ⟨d,⟨h1,hs,hk1.1,by omega,by omega,h3⟩,fun u hu=>?_⟩
   refine(sI (k:Int) ao n c u (hm.below hu) (M.fm k) kE kK d.kind d.neg d.digits.length d.exp 0 0 (fun v lo a k=>OwnV v lo (.slice a d.digits.length k) d.digits) (fun _ _ _ _ _ h hb=>h.below hb) (fun _ _ _ _ p x h hp=>h.far p hp x) (fun _ _ _ _ _ h hl=>h.low hl) rfl hk2 hk3 hd0 (fun v hv=>kS u hu v hv)).mono ?_
   rintro e w' ⟨a,c',rfl,hO,hb⟩;exact⟨a,c',rfl,hO.low (Nat.zero_le _),hb⟩

theorem JA (ao:Option Addr)(n c:Nat)(bs:List Nat)(w:World)(hl:bs.length=n)(hcap:n<=c)(hno:ao=none->c=0)(hr:RdB w ao bs)(v:World)(hv:Below w.heap.size w v):
 Calls Tryz.prog 8 #[.slice ao n c] v fun e w'=>∃a cc,e=.returned (.agg #[.int .i64 (aC bs).1.kind,.bool (aC bs).1.neg,.slice a (aC bs).1.digits.length cc,.int .i64 (aC bs).1.exp,.int .i64 (aC bs).2.1,.int .i64 (aC bs).2.2])/\((∀x∈(aC bs).1.digits,x<256)->OwnV w' 0 (.slice a (aC bs).1.digits.length cc) (aC bs).1.digits)/\Below v.heap.size v w':=by
 refine(jD ao n c bs v hl hcap hno (hr.below hv) _ rfl).mono ?_;rintro e w' ⟨ra,rc,rfl,ho,hb⟩
 exact⟨ra,rc,rfl,fun hx=>(OwnV.of_own ho hx).low (Nat.zero_le _),hb⟩

theorem AB (k:Nat)(hk:k<4)(ao:Option Addr)(n c:Nat)(bs:List Nat)(w:World)(hl:bs.length=n)(hcap:n<=c)(hno:ao=none->c=0)(hr:RdB w ao bs)(hnf:¬ ∃d,nQ bs d):
 Calls Tryz.prog 7 #[.int .i64 (k:Int),.slice ao n c] w fun e w'=>e=.returned (seV (M.fm k) (aC bs))/\Below w.heap.size w w':=by
 have h:=M.iM k;have p1:=h.p1;have hp0:(M.fm k).p≠0:=by omega
 have kE:=fun(v:World)=>bK k hk v
 have kS:=JA ao n c bs w hl hcap hno hr;unfold seV seO seY;rcases sB bs with⟨h1,h2⟩|⟨d,h1,h2,h3⟩
 . rw[if_pos h1];generalize aC bs=o at*;obtain⟨d,cd,off⟩:=o;simp only at h1 h2 kS;subst h2;simp only[hi0,lo0]
   exact tD (k:Int) ao n c w (M.fm k) hp0 kE 0 false 0 0 cd off (by omega) (by omega) (by omega) (fun v a cc=>(∀x∈([]:List Nat),x<256)->OwnV v 0 (.slice a 0 cc) []) (fun _ _ _ _ h hb=>fun q=>(h q).below hb) kS h1
 . have hs:=M.dY h2;have hkd:=M.fY h2;have ex1:=hs.exp1;have ex2:=hs.exp2
   have hl8:d.digits.length<=800:=by
    rcases hkd with x|x|x
    . omega
    . rw[x.2];simp
    . rw[x.2.2];simp
   rw[h1]at kS|-;simp only at kS;simp only[ne_eq,not_true_eq_false,if_false]
   have okB:∀(v v':World)(a:Option Addr)(k:Nat),((fun(v:World)(a:Option Addr)(cc:Nat)=>(∀x∈d.digits,x<256)->OwnV v 0 (.slice a d.digits.length cc) d.digits) v a k)->Below v.heap.size v v'->((fun(v:World)(a:Option Addr)(cc:Nat)=>(∀x∈d.digits,x<256)->OwnV v 0 (.slice a d.digits.length cc) d.digits) v' a k):=fun _ _ _ _ h hb=>fun q=>(h q).below hb
   by_cases hk2:d.kind=2
   . rw[if_pos hk2]
     exact fI (k:Int) ao n c w (M.fm k) hp0 kE d.kind d.neg d.digits.length d.exp 0 0 (by omega) (by omega) (by omega) _ okB kS rfl _ _ (.inl ⟨hk2,rfl,rfl⟩) _ _ true (fun v=>vO k hk 4 d.neg (by unfold M.Fm.Proper;simp) v)
   rw[if_neg hk2]
   by_cases hk3:d.kind=3
   . rw[if_pos hk3]
     have hng:d.neg=false:=by
      rcases hkd with x|x|x
      . omega
      . omega
      . exact x.2.1
     have kP:=fun v=>vO k hk 5 false (by unfold M.Fm.Proper;simp) v
     rw[<-hng]at kP;have:=fI (k:Int) ao n c w (M.fm k) hp0 kE d.kind d.neg d.digits.length d.exp 0 0 (by omega) (by omega) (by omega) _ okB kS rfl _ _ (.inr (.inl ⟨hk3,rfl,rfl⟩)) _ _ true kP;rw[hng]at this;exact this
   rw[if_neg hk3]
   have hk1:d.kind=1:=by
    rcases hkd with x|x|x
    . exact x.1
    . omega
    . omega
   have hd0:d.digits.length=0:=Classical.byContradiction fun hn=>hnf ⟨d,h1,hs,hk1,by omega,hl8,h3⟩
   exact fI (k:Int) ao n c w (M.fm k) hp0 kE d.kind d.neg d.digits.length d.exp 0 0 (by omega) (by omega) (by omega) _ okB kS rfl _ _ (.inr (.inr ⟨hk2,hk3,.inl ⟨hd0,rfl,rfl⟩⟩)) _ _ true (fun v=>vO k hk 1 d.neg (by unfold M.Fm.Proper;simp) v)

open Go.Maps

def nW (k:Int):Nat:=10^k.toNat

def nE (k:Int):Nat:=10^(-k).toNat

def cE (k W:Int):Int:=tb k-W+1

def tX (k W:Int):Nat:=nW k*2^(-(cE k W)).toNat

def tY (k W:Int):Nat:=nE k*2^(cE k W).toNat

theorem lI (m:Nat):nW (m:Int)=10^m:=by unfold nW;rw[Int.toNat_natCast]

theorem lJ (m:Nat):nE (m:Int)=1:=by unfold nE;rw[show(-(m:Int)).toNat=0 by omega]

theorem nM (m:Nat):nW (-(m:Int))=1:=by unfold nW;rw[show(-(m:Int)).toNat=0 by omega]

theorem oE (m:Nat):nE (-(m:Int))=10^m:=by unfold nE;rw[show(- -(m:Int)).toNat=m by omega]

theorem wV (k:Int):0<nE k:=Nat.pow_pos (by omega)

theorem tC (k:Int)(h:-5200<=k/\k<=5200):-20801<=tb k/\tb k<=20801:=by
 rcases Int.lt_or_le k 0 with h0|h0
 . obtain⟨m,rfl⟩:∃m:Nat,k= -(m:Int):=⟨(-k).toNat,by omega⟩;rw[pK m (by omega) (by omega)];have:=nJ m (by omega);omega
 . obtain⟨m,rfl⟩:∃m:Nat,k=(m:Int):=⟨k.toNat,by omega⟩;rw[pR m (by omega)];have:=nJ m (by omega);omega

theorem j3 (k W:Int)(h:-5200<=k/\k<=5200/\1<=W/\W<=128):tX k W/tY k W<2^128:=by
 have hY:0<tY k W:=Nat.mul_pos (wV k) (Nat.pow_pos (by omega));rw[Nat.div_lt_iff_lt_mul hY];unfold tX tY;rcases Int.lt_or_le k 0 with h0|h0
 . obtain⟨m,rfl⟩:∃m:Nat,k= -(m:Int):=⟨(-k).toNat,by omega⟩;have hm:0<m:=by omega
   have hb:=dJ (10^m) (Nat.pow_pos (by omega));have h1:=eF (10^m) (Nat.pow_pos (by omega));have h2:=mX (aB (10^m)-1) m hm;rw[nM,oE];unfold cE;rw[pK m (by omega) hm];generalize aB (10^m)=b at*;obtain⟨v,rfl⟩:∃v:Nat,W=(v:Int):=⟨W.toNat,by omega⟩;have e1:(-(-(b:Int)-(v:Int)+1)).toNat=(b-1)+v:=by omega
   have e2:(-(b:Int)-(v:Int)+1).toNat=0:=by omega
   rw[e1,e2,Nat.pow_add,Nat.one_mul,Nat.pow_zero,Nat.mul_one];have h3:2^v<=2^128:=Nat.pow_le_pow_right (by omega) (by omega);have h4:2^(b-1)*2^v<10^m*2^v:=Nat.mul_lt_mul_of_pos_right (by omega) (Nat.pow_pos (by omega));have h5:=Nat.lt_of_lt_of_le h4 (Nat.mul_le_mul_left (10^m) h3);rw[Nat.mul_comm (2^128)];exact h5
 . obtain⟨m,rfl⟩:∃m:Nat,k=(m:Int):=⟨k.toNat,by omega⟩;have hb:=dJ (10^m) (Nat.pow_pos (by omega));have h1:=dD (10^m);rw[lI,lJ];unfold cE;rw[pR m (by omega)];generalize aB (10^m)=b at*;obtain⟨v,rfl⟩:∃v:Nat,W=(v:Int):=⟨W.toNat,by omega⟩;obtain⟨p,hp⟩:∃p:Nat,p=(-((b:Int)-1-(v:Int)+1)).toNat:=⟨_,rfl⟩;obtain⟨q,hq⟩:∃q:Nat,q=((b:Int)-1-(v:Int)+1).toNat:=⟨_,rfl⟩;rw[<-hp,<-hq,Nat.one_mul];have e1:b+p=v+q:=by omega
   have h3:10^m*2^p<2^b*2^p:=Nat.mul_lt_mul_of_pos_right h1 (Nat.pow_pos (by omega));rw[<-Nat.pow_add,e1,Nat.pow_add]at h3;exact Nat.lt_of_lt_of_le h3 (Nat.mul_le_mul_right _ (Nat.pow_le_pow_right (by omega) (by omega)))

theorem FZ (k W:Int)(h:-5200<=k/\k<=5200/\1<=W/\W<=128)(w:World):
 Calls Tryz.prog 112 #[.int .i64 k,.int .i64 W] w fun e w'=>e=.returned (pwv k W (tX k W/tY k W) (cE k W) (decide (tX k W%tY k W=0)) true)/\Below w.heap.size w w':=by
 have hq:=j3 k W h;have hb:=tC k ⟨h.1,h.2.1⟩;have hd:=wV k;have hE:cE k W=tb k-W+1:=rfl
 have kk:(∀v:World,Calls Tryz.prog 52 #[.int .i64 k] v fun e v'=>RR v v' e (nW k) (nE k))/\(∀(v:World)(a b':Option Addr)(c d:Nat),Rd v a (L (nW k))->Rd v b' (L (nE k))->Calls Tryz.prog 135 #[.int .i64 k,.agg #[.slice a (L (nW k)).length c,.slice b' (L (nE k)).length d]] v fun e v'=>e=.returned (.int .i64 (tb k))/\Below v.heap.size v v')/\(L (nW k)).length<=1201/\(L (nE k)).length<=1201:=by
  rcases Int.lt_or_le k 0 with h0|h0
  . obtain⟨m,rfl⟩:∃m:Nat,k= -(m:Int):=⟨(-k).toNat,by omega⟩;rw[nM,oE,pK m (by omega) (by omega)]
    exact⟨fun v=>nV m v (by omega),fun v a b' c d ra rb=>xL a b' c d _ _ m v (by omega) (by omega) rfl rfl ra rb,mG,mI m (by omega)⟩
  . obtain⟨m,rfl⟩:∃m:Nat,k=(m:Int):=⟨k.toNat,by omega⟩;rw[lI,lJ,pR m (by omega)]
    exact⟨fun v=>nP m v (by omega),fun v a b' c d ra rb=>yL a b' c d _ _ m v (by omega) rfl rfl ra rb,mI m (by omega),mG⟩
 obtain⟨kT,kH,l1,l2⟩:=kk;rcases Int.lt_or_le (cE k W) 0 with h0|h0
 . obtain⟨s,hs⟩:∃s:Nat,cE k W= -(s:Int):=⟨(-(cE k W)).toNat,by omega⟩;have eX:tX k W=nW k*2^s:=by unfold tX;rw[hs,show(- -(s:Int)).toNat=s by omega]
   have eY:tY k W=nE k*2^0:=by unfold tY;rw[hs,show(-(s:Int)).toNat=0 by omega]
   rw[eX,eY]at hq|-;rw[hE]at hs|-;exact F3 k W (tb k) (nW k) (nE k) s w (by omega) (by omega) (by omega) (by omega) hs hd l1 l2 (by omega) hq kT kH
 . obtain⟨s,hs⟩:∃s:Nat,cE k W=(s:Int):=⟨(cE k W).toNat,by omega⟩;have eX:tX k W=nW k*2^0:=by unfold tX;rw[hs,show(-(s:Int)).toNat=0 by omega]
   have eY:tY k W=nE k*2^s:=by unfold tY;rw[hs,Int.toNat_natCast]
   rw[eX,eY]at hq|-;rw[hE]at hs|-;exact GA k W (tb k) (nW k) (nE k) s w (by omega) (by omega) (by omega) (by omega) hs hd l1 l2 (by omega) hq kT kH

def tpv (k W:Int):Value:=if-5200<=k/\k<=5200/\1<=W/\W<=128 then pwv k W (tX k W/tY k W) (cE k W) (decide (tX k W%tY k W=0)) true else pwv 0 0 0 0 false false

def fk (d:M.Dec):Int:=d.exp+((d.digits.length-19:Nat):Int)

def fh (d:M.Dec):Nat:=M.dec (d.digits.take (d.digits.length-(d.digits.length-19)))

def fT (k W:Int):Nat:=tX k W/tY k W

def fx (k W:Int):Bool:=decide (tX k W%tY k W=0)

def fU (k W:Int):Nat:=if fx k W then fT k W else fT k W+1

def fA (d:M.Dec)(W:Int):Nat:=fh d*fT (fk d) W

def fB (d:M.Dec)(W:Int):Nat:=if 0<d.digits.length-19 then(fh d+1)*fU (fk d) W else fh d*fU (fk d) W

def fP (d:M.Dec)(W:Int):Nat:=2^(cE (fk d) W).toNat

def fQ (d:M.Dec)(W:Int):Nat:=2^(-(cE (fk d) W)).toNat

def fIn (k W:Int):Prop:= -5200<=k/\k<=5200/\1<=W/\W<=128

def fEq (F:M.Fm)(d:M.Dec)(W:Int):Prop:=
 (M.hiN (rY F d.neg (fA d W*fP d W) (fQ d W)):Int)=(M.hiN (rY F d.neg (fB d W*fP d W) (fQ d W)):Int)/\(M.loN (rY F d.neg (fA d W*fP d W) (fQ d W)):Int)=(M.loN (rY F d.neg (fB d W*fP d W) (fQ d W)):Int)/\rF F (fA d W*fP d W) (fQ d W)=rF F (fB d W*fP d W) (fQ d W)

open Classical in

noncomputable def faO (F:M.Fm)(d:M.Dec)(W:Int):Nat×Int×Bool:=if fIn (fk d) W/\fEq F d W then(rY F d.neg (fA d W*fP d W) (fQ d W),rF F (fA d W*fP d W) (fQ d W),true)else(0,0,false)

noncomputable def faV (F:M.Fm)(d:M.Dec)(W:Int):Value:=.agg #[.int .u64 (M.hiN (faO F d W).1:Int),.int .u64 (M.loN (faO F d W).1:Int),.int .i64 0,.int .i64 0,.int .i64 (faO F d W).2.1,.bool (faO F d W).2.2]

theorem wT {F:M.Fm}{d:M.Dec}{W:Int}(h1:fIn (fk d) W)(h2:fEq F d W):faV F d W=.agg #[.int .u64 (M.hiN (rY F d.neg (fA d W*fP d W) (fQ d W)):Int),.int .u64 (M.loN (rY F d.neg (fA d W*fP d W) (fQ d W)):Int),.int .i64 0,.int .i64 0,.int .i64 (rF F (fA d W*fP d W) (fQ d W)),.bool true]:=by
 unfold faV faO;rw[if_pos ⟨h1,h2⟩]

theorem tG {F:M.Fm}{d:M.Dec}{W:Int}(h:¬(fIn (fk d) W/\fEq F d W)):faV F d W=.agg #[.int .u64 0,.int .u64 0,.int .i64 0,.int .i64 0,.int .i64 0,.bool false]:=by
 unfold faV faO;rw[if_neg h];simp only[hi0,lo0];rfl

theorem oH (a j K:Nat)(h:a<2^j)(hj:j<=64*K):(L a).length<=K:=by
 refine M.len_of_lt (B:=18446744073709551616) (by omega) _ _ ?_;rw[show(18446744073709551616:Nat)=2^64 by rfl,<-Nat.pow_mul];exact Nat.lt_of_lt_of_le h (Nat.pow_le_pow_right (by omega) hj)

theorem GW {d:M.Dec}(h:M.Dig d.digits):fh d<10000000000000000000:=JK _ h _ (by omega)

theorem zK {k W:Int}(h:fIn k W):fU k W<=2^128:=by
 have:=j3 k W h;unfold fU fT
 split<;>omega

theorem mR {a b:Nat}(ha:a<=2^64)(hb:b<=2^128):a*b<2^193:=
 Nat.lt_of_le_of_lt (Nat.mul_le_mul ha hb) (by decide)

theorem OB {d:M.Dec}{W:Int}(hd:M.Dig d.digits)(h:fIn (fk d) W):fA d W<2^193/\fB d W<2^193:=by
 have h1:=GW hd;have h2:=zK h;have h3:=j3 _ _ h;refine⟨mR (by omega) (Nat.le_of_lt h3),?_⟩;unfold fB;split
 . exact mR (by omega) h2
 . exact mR (by omega) h2

theorem xW {k W:Int}(h:fIn k W):(cE k W).toNat<=21000/\(-(cE k W)).toNat<=21000:=by
 have:=tC k ⟨h.1,h.2.1⟩;obtain⟨_,_,h3,h4⟩:=h;unfold cE;omega

theorem JL {N:Nat}(hN:N<2^193){e:Nat}(he:e<=21000):(L (N*2^e)).length<=400:=by
 refine oH _ (193+e) _ ?_ (by omega);rw[Nat.pow_add];exact Nat.mul_lt_mul_of_pos_right hN (Nat.pow_pos (by omega))

theorem PW {e:Nat}(he:e<=21000):(L (2^e)).length<=400:=oH _ (e+1) _ (Nat.pow_lt_pow_right (by omega) (by omega)) (by omega)

theorem DI (E:Int)(h1:E.toNat<=21000)(h2:(-E).toNat<=21000)(N:Nat)(hN:(L N).length<=1048576)(v:World)(ao bo:Option Addr)(cc:Nat)(ra:Rd v ao (L N))(rb:Rd v bo [1]):
 Calls Tryz.prog 85 #[.agg #[.slice ao (L N).length cc,.slice bo 1 1],.int .i64 E] v fun e w'=>RR v w' e (N*2^E.toNat) (2^(-E).toNat):=by
 rw[<-jN]at rb;have l1:(L 1).length=1:=by rw[jN];rfl
 rcases Int.le_total 0 E with h|h
 . obtain⟨s,rfl⟩:=Int.eq_ofNat_of_zero_le h;have:=jM ao bo cc 1 _ 1 N 1 s v rfl l1 hN (by omega) (by omega) ra rb;rw[show((s:Int)).toNat=s by omega,show(-(s:Int)).toNat=0 by omega]
   rwa[Nat.one_mul]at this
 . obtain⟨s,hs⟩:=Int.eq_ofNat_of_zero_le (show 0<= -E by omega);have e:E= -(s:Int):=by omega
   subst e;have:=jT ao bo cc 1 _ 1 N 1 s v rfl l1 hN (by omega) (by omega) ra rb;rw[show(-(s:Int)).toNat=0 by omega,show(-(-(s:Int))).toNat=s by omega]
   rwa[Nat.one_mul]at this

theorem xT (k W:Int)(h:fIn k W)(tb bm d:Nat)(hd:d<18446744073709551616)(v:World)(hF:Full v tb bm k W (.agg #[.int .i64 k,.int .i64 W,.int .u64 (M.hiN (fT k W):Int),.int .u64 (M.loN (fT k W):Int),.int .i64 (cE k W),.bool (fx k W),.bool true])):
 Calls Tryz.prog 82 #[.pointer (some ⟨tb,0,none⟩),.int .u64 (d:Int),.agg #[.int .i64 k,.int .i64 W,.int .u64 (M.hiN (fT k W):Int),.int .u64 (M.loN (fT k W):Int),.int .i64 (cE k W),.bool (fx k W),.bool true]] v fun e w'=>Scx tb bm v w' e (L (d*fT k W)) (L (d*fU k W)) (cE k W) true/\Full w' tb bm k W (.agg #[.int .i64 k,.int .i64 W,.int .u64 (M.hiN (fT k W):Int),.int .u64 (M.loN (fT k W):Int),.int .i64 (cE k W),.bool (fx k W),.bool true]):=by
 have hT:fT k W<2^128:=j3 k W h;have hU:=zK h;have ld:=oH d 64 1 (by omega) (by omega);have lT:=oH (fT k W) 128 2 hT (by omega);have lT1:=oH (fT k W+1) 192 3 (by omega) (by omega);have lU:=oH (fU k W) 192 3 (by omega) (by omega)
 refine zG d hd k W (fT k W) (cE k W) (fx k W) v tb bm hF (d*fT k W) (d*fU k W) (fun u hu=>?_) (fun v=>IR _ hT v) (fun v ao bo c e hr hr2=>mF ao bo _ _ c e d _ v rfl rfl (by omega) (by omega) hr hr2) (fun v ao bo c e hr hr2=>LU ao bo _ _ c e _ 1 v rfl (by rw[jN];rfl) (by omega) (by omega) hr (by rw[jN];exact hr2)) (fU k W) rfl (fun v ao bo c e hr hr2=>mF ao bo _ _ c e d _ v rfl rfl (by omega) (by omega) hr hr2)
 have:=F0 tb bm k W (cE k W) (fT k W) (fx k W) u h (by unfold pwv;exact hu);unfold pwv at this;exact this

theorem M8 (F:M.Fm)(hF:F.Ok)(t:List Nat)(d:M.Dec)(hs:M.Sound t d)(ht:t.length<=800)(hk:0<d.digits.length)(hl:d.digits.length<=800)(a:Option Addr)(cc:Nat)(W:Int)(u v:World)(tb bm:Nat)(ho:OwnV u 0 (.slice a d.digits.length cc) d.digits)(hb:Below u.heap.size u v)(l1:u.heap.size<=tb)(l2:u.heap.size<=bm)(hE:Emp v tb bm):
 Calls Tryz.prog 36 #[.pointer (some ⟨tb,0,none⟩),dv F,.agg #[.int .i64 d.kind,.bool d.neg,.slice a d.digits.length cc,.int .i64 d.exp],.int .i64 W] v fun e w'=>e=.returned (faV F d W)/\T2 tb bm v w':=by
 have hr:=ho.rd;obtain⟨a',c',hv,q1,q2,q3,q4,q5⟩:=ho;simp only[Value.slice.injEq]at hv;obtain⟨rfl,_,rfl⟩:=hv;obtain⟨b,off,cur,rfl,_,hcur,_⟩:=q5 hk;have lb:b<u.heap.size:=(Array.getElem?_eq_some_iff.1 hcur).1;have e1:=hs.exp1;have e2:=hs.exp2
 have kF:=fun v:World=>IU d.kind d.neg (some ⟨b,off,none⟩) d.digits.length cc d.exp (d.digits.length-19) (fk d) v (by omega) rfl (by omega) (by omega) rfl
 have e:dv F=.agg #[.int .i64 (F.p:Int),.int .i64 (1-(F.emax:Int)),.int .i64 (F.emax:Int),.int .i64 (F.wd:Int),.int .i64 (F.e:Int),.bool F.x]:=rfl
 by_cases hin:fIn (fk d) W
 . have hd:=GW hs.dig;have hT:fT (fk d) W<2^128:=j3 _ _ hin;obtain⟨hA,hB⟩:=OB hs.dig hin;obtain⟨b1,b2⟩:=xW hin;have lA:=JL hA b1;have lB:=JL hB b1;have lQ:=PW b2
   have kP:∀(N:Nat),(L N).length<=400->∀(v:World)(ao bo:Option Addr)(cc dd:Nat),Rd v ao (L N)->Rd v bo (L (fQ d W))->Calls Tryz.prog 50 #[dv F,.bool d.neg,.agg #[.slice ao (L N).length cc,.slice bo (L (fQ d W)).length dd]] v fun e w'=>e=.returned (.agg #[.int .u64 (M.hiN (rY F d.neg N (fQ d W)):Int),.int .u64 (M.loN (rY F d.neg N (fQ d W)):Int),.int .i64 0,.int .i64 0,.int .i64 (rF F N (fQ d W))])/\Below v.heap.size v w':=fun N lN v ao bo c1 d1 r1 r2=>
    rJ F d.neg ao bo _ _ c1 d1 _ _ _ true v (fun u hu=>sM F hF d.neg ao bo c1 d1 N (fQ d W) u (Nat.pow_pos (by omega)) (by omega) (by unfold fQ;omega) (r1.below hu) (r2.below hu))
   refine(L8 F d.kind d.neg (some ⟨b,off,none⟩) d.digits.length cc d.exp (fk d) W (cE (fk d) W) (fT (fk d) W) (fx (fk d) W) d.digits v tb bm hE (hr.below hb) (fun b' o' h'=>by injection h' with h';injection h' with h' _;omega) (fun b' o' h'=>by injection h' with h';injection h' with h' _;omega) (fh d) (fh d+1) (d.digits.length-19) (fA d W) (fh d*fU (fk d) W) ((fh d+1)*fT (fk d) W) ((fh d+1)*fU (fk d) W) (fB d W) (fA d W*fP d W) (fB d W*fP d W) (fQ d W) _ _ _ _ _ _ (faV F d W)
    (by rw[IntKind.wrap_u64];omega) rfl (fun hh=>wT hin hh) (fun hh=>tG (fun h2=>hh h2.2)) kF (fun u hu=>?_)
    (fun u hu=>IX d.kind d.neg b off d.digits.length cc d.exp d.digits (d.digits.length-19) (d.digits.length-(d.digits.length-19)) (fh d) u rfl (by omega) q1 q2 hs.dig rfl (by omega) hu rfl)
    (fun u=>wU d.kind d.neg (some ⟨b,off,none⟩) d.digits.length cc d.exp (d.digits.length-19) u (by omega) rfl)
    (fun u hu=>xT (fk d) W hin tb bm (fh d) (by omega) u hu) (fun u hu=>xT (fk d) W hin tb bm (fh d+1) (by omega) u hu)
    (fun u ao bo c1 r1 r2=>DI _ b1 b2 _ (Nat.le_trans (oH _ 193 4 hA (by omega)) (by omega)) u ao bo c1 r1 r2) (fun u ao bo c1 r1 r2=>DI _ b1 b2 _ (Nat.le_trans (oH _ 193 4 hB (by omega)) (by omega)) u ao bo c1 r1 r2)
    (fun u ao bo c1 d1 r1 r2=>kP _ lA u ao bo c1 d1 r1 r2) (fun u ao bo c1 d1 r1 r2=>kP _ lB u ao bo c1 d1 r1 r2))
   have:=DR tb bm (fk d) W (cE (fk d) W) (fT (fk d) W) (fx (fk d) W) u hin hu.c0 hu.c2 hu.f0 hu.ne hu.own hu.lb (fun v=>FZ (fk d) W hin v)
   unfold pwv at this;exact this
 . rw[tG (fun h=>hin h.1)]
   refine(PV F d.kind d.neg (some ⟨b,off,none⟩) d.digits.length cc d.exp (fk d) W v tb bm kF (fun u=>?_)).mono fun e w' ⟨he,hb⟩=>⟨he,T2.of hb⟩
   have:=FM tb (fk d) W u hin;unfold pwv at this;simp only[hi0,lo0]at this;exact this

theorem EH (k:Nat)(hk:k<4)(ao:Option Addr)(n c:Nat)(bs:List Nat)(W:Int)(w:World)(hl:bs.length=n)(hr:RdB w ao bs)(hm:Fmt w)(hF:Fol w)(hWd:Wds w):
 Calls Tryz.prog 13 #[.int .i64 (k:Int),.slice ao n c,.int .i64 W] w fun e w'=>(((¬ ∃d,nQ bs d)/\e=.returned (.agg #[.int .u64 (M.hiN (seO (M.fm k) (aC bs)).1:Int),.int .u64 (M.loN (seO (M.fm k) (aC bs)).1:Int),.int .i64 (seO (M.fm k) (aC bs)).2.1,.int .i64 (seO (M.fm k) (aC bs)).2.2,.int .i64 0,.bool true]))\/ ∃d,nQ bs d/\e=.returned (faV (M.fm k) d W))/\Below w.heap.size w w':=by
 rcases AY k hk ao n c bs w hl hr hm hF hWd with⟨hn,kd,ng,dl,ex,kS⟩|⟨d,hd,kS⟩
 . unfold seV at kS
   exact(n9 (k:Int) ao n c W w kd ng dl ex _ _ _ _ _ kS).mono fun e w' ⟨he,hb⟩=>⟨.inl ⟨hn,he⟩,hb⟩
 . obtain⟨_,hs,h1,h2,h3,h4⟩:=id hd
   refine(KA (k:Int) ao n c W w hm (M.fm k) d.kind d.neg d.digits.length d.exp _ _ 0 0 _ _ (fun v a cc=>OwnV v 0 (.slice a d.digits.length cc) d.digits) (fun _ _ _ _ h hb=>h.below hb) kS (fun v hv=>j4 k hk v hv) (fun u v a cc tb bm ho hb l1 l2 hE=>?_)).mono fun e w' ⟨he,hb⟩=>⟨.inr ⟨d,hd,he⟩,hb⟩
   exact M8 (M.fm k) (M.iM k) bs d hs h4 h2 h3 a cc W u v tb bm ho hb l1 l2 hE

theorem IC (f:Int)(hf:f<0\/4<=f)(ao:Option Addr)(n c:Nat)(W:Int)(w:World):
 Calls Tryz.prog 13 #[.int .i64 f,.slice ao n c,.int .i64 W] w fun e w'=>e=.returned (.agg #[.int .u64 0,.int .u64 0,.int .i64 4,.int .i64 0,.int .i64 0,.bool true])/\Below w.heap.size w w':=by
 refine n9 f ao n c W w 0 false 0 0 0 0 4 0 0 (fun u hu=>?_)
 refine(uE f hf ao n c u).mono ?_;rintro e w' ⟨rfl,hb⟩;exact⟨none,0,rfl,hb⟩

theorem BU {w v:World}(h:Below w.heap.size w v)(g:Nat)(hg:w.heap.size<=g)(a b c d:Value):Below w.heap.size w ((((v.setCell ⟨g,0,none⟩ a).setCell ⟨g,1,none⟩ b).setCell ⟨g,2,none⟩ c).setCell ⟨g,3,none⟩ d):=
 (((h.setCell (p:=⟨g,0,none⟩) hg a).setCell (p:=⟨g,1,none⟩) hg b).setCell (p:=⟨g,2,none⟩) hg c).setCell (p:=⟨g,3,none⟩) hg d

theorem yB (f:Int)(ao:Option Addr)(n c:Nat)(w:World)(e0 e1 e2 e3 e4:Int)(e5:Bool)
 (kE:∀v:World,Calls Tryz.prog 9 #[.int .i64 f] v fun e w'=>e=.returned (.agg #[.int .i64 e0,.int .i64 e1,.int .i64 e2,.int .i64 e3,.int .i64 e4,.bool e5])/\Below v.heap.size v w')
 (kd:Int)(ng:Bool)(dl:Nat)(ex cd off:Int)(OK:World->Nat->Option Addr->Nat->Prop)(okB:∀v v' lo a k,OK v lo a k->Below v.heap.size v v'->OK v' lo a k)(okF:∀v lo a k (p:Addr) x,OK v lo a k->p.block<lo->OK (v.setCell p x) lo a k)
 (kS:∀v:World,Below w.heap.size w v->Calls Tryz.prog 8 #[.slice ao n c] v fun e w'=>∃a cc,e=.returned (.agg #[.int .i64 kd,.bool ng,.slice a dl cc,.int .i64 ex,.int .i64 cd,.int .i64 off])/\OK w' v.heap.size a cc/\Below v.heap.size v w')
 (hc:e0=0\/cd≠0\/kd≠1\/dl=0):
 Calls Tryz.prog 37 #[.int .i64 f,.slice ao n c] w fun e w'=>e=.returned (.tuple #[.agg #[.int .i64 0,.bool false,.slice none 0 0,.int .i64 0],.int .i64 0,.int .i64 0,.bool false])/\Below w.heap.size w w':=by
 have HC:=hid hc;clear hc;have b0:Below w.heap.size w (w.alloc (.cells #[.int .i64 0,.bool false,.slice none 0 0,.int .i64 0] 32)):=(Below.refl _ _).alloc (Nat.le_refl _) _;have c0:Cls (w.alloc (.cells #[.int .i64 0,.bool false,.slice none 0 0,.int .i64 0] 32)) w.heap.size #[.int .i64 0,.bool false,.slice none 0 0,.int .i64 0] 32:=Cls.new _ _ _;have fd:=jQ;go_enter Tryz.func37,Tryz.ntmps37;go_wp2_with fail;refine(kS _ b0).mono ?_;rintro e v1 ⟨a,cc,rfl,ho,hb⟩;obtain⟨v2,ev2,cs,hb2,-⟩:=eE v1 #[.int .i64 kd,.bool ng,.slice a dl cc,.int .i64 ex,.int .i64 cd,.int .i64 off] 34;replace ev2:=hid ev2;have lg:w.heap.size<v1.heap.size:=(c0.below hb).lt;replace ho:=okB _ _ _ _ _ ho hb2;replace hb:=hb.trans (hb2.mono hb.size);replace b0:=b0.trans (hb.mono b0.size);replace c0:=c0.below hb;clear hb hb2 kS;go_upto_region 2 with fail;rw[ev2.out];clear ev2;generalize v1.heap.size=gs at*
 go_cut[33] (fun z wx=>z=.bool true/\Below v2.heap.size v2 wx)
 case first=>
  go_wp2_with fail;refine(kE _).mono ?_;rintro e u1 ⟨rfl,hb⟩;have s0:=(cs.below hb).cell 0 rfl;have s2:=(cs.below hb).cell 2 rfl;have s4:=(cs.below hb).cell 4 rfl
  by_cases q0:e0=0
  . subst q0;go_wp2_with fail;go_meet
    case rel=>exact⟨rfl,hb⟩
  by_cases q1:cd=0
  . by_cases q2:kd=1
    . have q3:dl=0:=by have:=HC.out;omega
      subst q1 q2 q3;go_wp2_with fail;go_meet
      case rel=>exact⟨rfl,hb⟩
    . subst q1;go_wp2_with fail;go_meet
      case rel=>exact⟨rfl,hb⟩
  . skip;go_wp2_with fail;go_meet
    case rel=>exact⟨rfl,hb⟩
 case rest=>
 obtain⟨rfl,hb⟩:=hcut
 rename World=>v3
 replace b0:=b0.trans (hb.mono b0.size);replace c0:=c0.below hb;have x0:=c0.cell 0 rfl;have z0:=c0.frozen 0;have x1:=c0.cell 1 rfl;have z1:=c0.frozen 1;have x2:=c0.cell 2 rfl;have z2:=c0.frozen 2;have x3:=c0.cell 3 rfl;have z3:=c0.frozen 3;have HB:=hid b0;clear b0 c0 hb;go_wp2_with fail;exact bodyPost_ret (v:=.tuple #[.agg #[.int .i64 0,.bool false,.slice none 0 0,.int .i64 0],.int .i64 0,.int .i64 0,.bool false]) (by simp[results,Tryz.results37,go_sem,x0,x1,x2,x3]) rfl ⟨rfl,BU HB.out _ (Nat.le_refl _) _ _ _ _⟩

theorem F9 (f:Int)(ao:Option Addr)(n c:Nat)(w:World)(e0 e1 e2 e3 e4:Int)(e5:Bool)
 (kE:∀v:World,Calls Tryz.prog 9 #[.int .i64 f] v fun e w'=>e=.returned (.agg #[.int .i64 e0,.int .i64 e1,.int .i64 e2,.int .i64 e3,.int .i64 e4,.bool e5])/\Below v.heap.size v w')
 (kd:Int)(ng:Bool)(dl:Nat)(ex cd off:Int)(OK:World->Nat->Option Addr->Nat->Prop)(okB:∀v v' lo a k,OK v lo a k->Below v.heap.size v v'->OK v' lo a k)(okF:∀v lo a k (p:Addr) x,OK v lo a k->p.block<lo->OK (v.setCell p x) lo a k)
 (kS:∀v:World,Below w.heap.size w v->Calls Tryz.prog 8 #[.slice ao n c] v fun e w'=>∃a cc,e=.returned (.agg #[.int .i64 kd,.bool ng,.slice a dl cc,.int .i64 ex,.int .i64 cd,.int .i64 off])/\OK w' v.heap.size a cc/\Below v.heap.size v w')
 (h0:e0≠0)(h1:cd=0)(h2:kd=1)(h3:0<dl)(hdl:dl<=10000)(he1:-2000000<=ex)(he2:ex<=2000000)(m:Nat)(hm:m=dl-19)(k:Int)(hk:k=ex+(m:Int)):
 Calls Tryz.prog 37 #[.int .i64 f,.slice ao n c] w fun e w'=>∃a cc,e=.returned (.tuple #[.agg #[.int .i64 kd,.bool ng,.slice a dl cc,.int .i64 ex],.int .i64 (m:Int),.int .i64 k,.bool true])/\OK w' (w.heap.size+1) a cc/\Below w.heap.size w w':=by
 subst h1 h2;have HM:=hid hm;have HK:=hid hk;clear hm hk;have b0:Below w.heap.size w (w.alloc (.cells #[.int .i64 0,.bool false,.slice none 0 0,.int .i64 0] 32)):=(Below.refl _ _).alloc (Nat.le_refl _) _;have c0:Cls (w.alloc (.cells #[.int .i64 0,.bool false,.slice none 0 0,.int .i64 0] 32)) w.heap.size #[.int .i64 0,.bool false,.slice none 0 0,.int .i64 0] 32:=Cls.new _ _ _;have fd:=jQ;go_enter Tryz.func37,Tryz.ntmps37;go_wp2_with fail;refine(kS _ b0).mono ?_;rintro e v1 ⟨a,cc,rfl,ho,hb⟩;obtain⟨v2,ev2,cs,hb2,-⟩:=eE v1 #[.int .i64 1,.bool ng,.slice a dl cc,.int .i64 ex,.int .i64 0,.int .i64 off] 34;replace ev2:=hid ev2;have lg:w.heap.size<v1.heap.size:=(c0.below hb).lt;replace ho:=okB _ _ _ _ _ ho hb2;replace hb:=hb.trans (hb2.mono hb.size);replace b0:=b0.trans (hb.mono b0.size);replace c0:=c0.below hb;clear hb hb2 kS;go_upto_region 2 with fail;rw[ev2.out];clear ev2;generalize v1.heap.size=gs at*
 go_cut[33] (fun z wx=>z=.bool false/\Below v2.heap.size v2 wx)
 case first=>
  have q3:¬(dl:Int)=0:=by omega
  go_wp2_with fail;refine(kE _).mono ?_;rintro e u1 ⟨rfl,hb⟩;have s0:=(cs.below hb).cell 0 rfl;have s2:=(cs.below hb).cell 2 rfl;have s4:=(cs.below hb).cell 4 rfl;go_wp2_with fail;go_meet
  case rel=>exact⟨by simp[h0];omega,hb⟩
 case rest=>
 obtain⟨rfl,hb⟩:=hcut
 rename World=>v3
 replace b0:=b0.trans (hb.mono b0.size);replace c0:=c0.below hb;replace cs:=cs.below hb;replace ho:=okB _ _ _ _ _ ho hb;clear hb kE;have s2:=cs.cell 2 rfl;go_upto_if 39 with fail
 go_cut[9] (fun z wx=>z=.int .i64 (m:Int)/\wx=v3)
 case first=>
  by_cases g:19<dl
  . have g':(19:Int)<(dl:Int):=by omega
    have q:IntKind.i64.wrap ((dl:Int)-19)=(m:Int):=by rw[IntKind.wrap_i64];have:=HM.out;omega
    go_wp2_with fail;go_meet
    case rel=>exact⟨rfl,rfl⟩
  . have g':¬(19:Int)<(dl:Int):=by omega
    have q:(m:Int)=0:=by have:=HM.out;omega
    have Q:=hid q;clear q;go_wp2_with fail;go_meet
    case rel=>exact⟨by rw[Q.out],rfl⟩
 case rest=>
 obtain⟨rfl,hwc⟩:=hcut;subst hwc;clear s2;have q:IntKind.i64.wrap (ex+(m:Int))=k:=by rw[IntKind.wrap_i64,HK.out];have:=HM.out;omega
 have A0:Below wc.heap.size wc wc.drew:=(Below.refl _ _).drew
 have KB:∀v,Below wc.heap.size wc v->(fun v:World=>v.cell? ⟨gs,0,none⟩=some (.int .i64 1)/\v.cell? ⟨gs,1,none⟩=some (.bool ng)/\v.cell? ⟨gs,2,none⟩=some (.slice a dl cc)/\v.cell? ⟨gs,3,none⟩=some (.int .i64 ex)) v:=fun v hv=>⟨(cs.below hv).cell 0 rfl,(cs.below hv).cell 1 rfl,(cs.below hv).cell 2 rfl,(cs.below hv).cell 3 rfl⟩
 have KS:∀v y0 y1 y2 y3,Below wc.heap.size wc v->(fun v:World=>v.cell? ⟨gs,0,none⟩=some (.int .i64 1)/\v.cell? ⟨gs,1,none⟩=some (.bool ng)/\v.cell? ⟨gs,2,none⟩=some (.slice a dl cc)/\v.cell? ⟨gs,3,none⟩=some (.int .i64 ex)) ((((v.setCell ⟨w.heap.size,0,none⟩ y0).setCell ⟨w.heap.size,1,none⟩ y1).setCell ⟨w.heap.size,2,none⟩ y2).setCell ⟨w.heap.size,3,none⟩ y3):=fun v y0 y1 y2 y3 hv=>by
  have c9:=((((cs.below hv).far ⟨w.heap.size,0,none⟩ (by simp only;omega) y0).far ⟨w.heap.size,1,none⟩ (by simp only;omega) y1).far ⟨w.heap.size,2,none⟩ (by simp only;omega) y2).far ⟨w.heap.size,3,none⟩ (by simp only;omega) y3;exact⟨c9.cell 0 rfl,c9.cell 1 rfl,c9.cell 2 rfl,c9.cell 3 rfl⟩
 have KS2:∀y0 y1 y2 y3,(fun v:World=>v.cell? ⟨gs,0,none⟩=some (.int .i64 1)/\v.cell? ⟨gs,1,none⟩=some (.bool ng)/\v.cell? ⟨gs,2,none⟩=some (.slice a dl cc)/\v.cell? ⟨gs,3,none⟩=some (.int .i64 ex)) ((((wc.setCell ⟨w.heap.size,0,none⟩ y0).setCell ⟨w.heap.size,1,none⟩ y1).setCell ⟨w.heap.size,2,none⟩ y2).setCell ⟨w.heap.size,3,none⟩ y3).drew:=fun y0 y1 y2 y3=>KS wc y0 y1 y2 y3 (Below.refl _ _)
 have RB:=hid (BU b0 _ (Nat.le_refl _) (.int .i64 1) (.bool ng) (.slice a dl cc) (.int .i64 ex)).drew;have x0:=c0.cell 0 rfl;have z0:=c0.frozen 0;have x1:=c0.cell 1 rfl;have z1:=c0.frozen 1;have x2:=c0.cell 2 rfl;have z2:=c0.frozen 2;have x3:=c0.cell 3 rfl;have z3:=c0.frozen 3;have lo1:(w.alloc (.cells #[.int .i64 0,.bool false,.slice none 0 0,.int .i64 0] 32)).heap.size=w.heap.size+1:=by simp
 rw[lo1]at ho;have HO:=hid (okB _ _ _ _ _ (okF _ _ _ _ ⟨w.heap.size,3,none⟩ (.int .i64 ex) (okF _ _ _ _ ⟨w.heap.size,2,none⟩ (.slice a dl cc) (okF _ _ _ _ ⟨w.heap.size,1,none⟩ (.bool ng) (okF _ _ _ _ ⟨w.heap.size,0,none⟩ (.int .i64 1) ho (Nat.lt_succ_self _)) (Nat.lt_succ_self _)) (Nat.lt_succ_self _)) (Nat.lt_succ_self _)) (Below.refl _ _).drew);go_upto_region 7 with fail
 go_region_held3 (fun v:World=>v.cell? ⟨gs,0,none⟩=some (.int .i64 1)/\v.cell? ⟨gs,1,none⟩=some (.bool ng)/\v.cell? ⟨gs,2,none⟩=some (.slice a dl cc)/\v.cell? ⟨gs,3,none⟩=some (.int .i64 ex)) (first|with_reducible exact KB _ A0|with_reducible exact KS2 _ _ _ _) (fail)
 all_goals go_wp2_with fail
 all_goals exact bodyPost_ret (v:=.tuple #[.agg #[.int .i64 1,.bool ng,.slice a dl cc,.int .i64 ex],.int .i64 (m:Int),.int .i64 k,.bool true]) (by simp[results,Tryz.results37,go_sem,x0,x1,x2,x3]) rfl ⟨a,cc,rfl,HO.out,RB.out⟩

end Go.Proofs.YtfdgkleoaehjaaaGreatDoor
