import Derived.Deep.AppendLies
import Derived.ArgAppend
import Derived.Deep.MidRow
import Derived.Lib.ConvBytes
import Derived.Test.YtfdgkleoaehjaaaGreatDoorfGBB
namespace Go.Proofs.YtfdgkleoaehjaaaGreatDoor
open Go.RowKit Go.Maps
set_option linter.unusedVariables false
set_option maxRecDepth 100000

theorem GC (s:Nat)(w:World)(hs:s<=100000):
 Calls Tryz.prog 43 #[.int .i64 (s:Int)] w fun e w'=>Ret w w' e (D (2^s)):=by
 go_enter Tryz.func43,Tryz.ntmps43;go_wp2_with fail;refine(aU 1 _ (by omega)).mono ?_;rintro e w1 ⟨ao1,cap1,rfl,ho1,hb1⟩;have hl:(D 1).length<=6:=dG 1 (by omega);go_wp2_with fail;refine(aN ao1 _ cap1 s 1 _ rfl (by omega) (by omega) (Rd.own ho1)).mono ?_;rw[Nat.one_mul];rintro e w2 ⟨ao2,cap2,rfl,ho2,hb2⟩;go_wp2_with fail;go_ret;exact⟨ao2,cap2,rfl,aM ho2 hb1.size,hb1.trans (hb2.mono hb1.size)⟩

theorem lG (a j K:Nat)(h:a<2^j)(hj:j<=32*K):(D a).length<=K:=by
 refine M.len_of_lt (B:=4294967296) (by omega) _ _ ?_;rw[show(4294967296:Nat)=2^32 by rfl,<-Nat.pow_mul];exact Nat.lt_of_lt_of_le h (Nat.pow_le_pow_right (by omega) hj)

theorem DK {N:Nat}(hN:N<2^193){e:Nat}(he:e<=21000):(D (N*2^e)).length<=800:=by
 refine lG _ (193+e) _ ?_ (by omega);rw[Nat.pow_add];exact Nat.mul_lt_mul_of_pos_right hN (Nat.pow_pos (by omega))

theorem L9 {e:Nat}(he:e<=21000):(D (2^e)).length<=800:=lG _ (e+1) _ (Nat.pow_lt_pow_right (by omega) (by omega)) (by omega)

theorem uD (k W:Int)(h:fIn k W)(d:Nat)(hd:d<18446744073709551616)(v:World):
 Calls Tryz.prog 41 #[.int .u64 (d:Int),.agg #[.int .i64 k,.int .i64 W,.int .u64 (M.hiN (fT k W):Int),.int .u64 (M.loN (fT k W):Int),.int .i64 (cE k W),.bool (fx k W),.bool true]] v fun e w'=>Sw v w' e (L (d*fT k W)) (L (d*fU k W)) (cE k W) true:=by
 have hT:fT k W<2^128:=j3 k W h;have hU:=zK h
 have kT:=fun v:World=>iX k W v
 rw[show tpv k W=pwv k W (fT k W) (cE k W) (fx k W) true from if_pos h]at kT;unfold pwv at kT;have ld:=lG d 64 2 (by omega) (by omega);have lT:=lG (fT k W) 128 4 hT (by omega);have lT1:=lG (fT k W+1) 160 5 (by omega) (by omega);have l1:=lG 1 32 1 (by omega) (by omega)
 refine FE d k W (fT k W) (cE k W) (fx k W) v (d*fT k W) (d*fU k W) kT (fun v=>aU d v hd) (fun v=>aU 1 v (by omega)) (fun v=>PE _ hT v) (fun v ao bo c e hr hr2=>cI ao bo _ _ c e d _ v rfl rfl (by omega) (by omega) hr hr2) (fun v ao bo c e hr hr2=>cJ ao bo _ _ c e _ 1 v rfl rfl (by omega) (by omega) hr hr2) (fun hx v ao bo c e hr hr2=>?_) (fun hx=>by unfold fU;rw[if_pos hx]) (fun v ao c hr=>?_) (fun v ao c hr=>?_)
 . unfold fU;rw[hx];exact cI ao bo _ _ c e d _ v rfl rfl (by omega) (by omega) hr hr2
 . exact mK ao _ c _ v rfl (Nat.le_trans (lG _ 193 7 (mR (by omega) (Nat.le_of_lt hT)) (by omega)) (by omega)) hr
 . exact mK ao _ c _ v rfl (Nat.le_trans (lG _ 193 7 (mR (by omega) hU) (by omega)) (by omega)) hr

theorem QB (N:Nat)(hN:N<2^193)(v:World)(a:Option Addr)(cc:Nat)(hr:Rd v a (L N)):Calls Tryz.prog 40 #[.slice a (L N).length cc] v fun e w'=>Ret v w' e (D N):=by
 have:=oM a (L N).length cc (L N) v rfl (Nat.le_trans (oH N 193 4 hN (by omega)) (by omega)) (gP N) hr;rw[V_L]at this;exact this

theorem OP (n:Nat)(h0:0<n)(h:n<18446744073709551616):L n=[n]:=by
 have h1:=M.len_of_lt (B:=18446744073709551616) (by omega) n 1 (by omega);have h2:V (L n)=n:=V_L n
 match hL:L n,h1,h2 with
 |[],_,h2=>simp[V,M.val]at h2;omega
 |[y],_,h2=>simp[V,M.val]at h2;rw[h2]
 |_::_::_,h1,_=>unfold L at hL;rw[hL]at h1;simp at h1

theorem OO {t:List Nat}{d:M.Dec}(hs:M.Sound t d)(hk:0<d.digits.length):0<fh d:=by
 unfold fh
 obtain⟨c,r,e⟩:∃c r,d.digits=c::r:=by
  match hd:d.digits,hk with
  |c::r,_=>exact⟨c,r,rfl⟩
  |[],hk=>simp at hk
 have h1:=hs.head c r e;have h2:=hs.dig c (by rw[e];simp);rw[e]at hk|-;obtain⟨q,hq⟩:∃q,(c::r).length-((c::r).length-19)=q+1:=⟨(c::r).length-((c::r).length-19)-1,by omega⟩;rw[hq,List.take_succ_cons,M.tL];have:0<(c-48)*10^(r.take q).length:=Nat.mul_pos (by omega) (Nat.pow_pos (by omega));omega

theorem LK {F:M.Fm}{ng:Bool}{N De:Nat}(h:0<N):rY F ng N De=F.pk (F.rPt ng N De)/\rF F N De=F.rFl N De 2 1:=by
 unfold rY rF;rw[if_neg (by omega),if_neg (by omega)];exact⟨rfl,rfl⟩

theorem FB (k:Nat)(hk:k<4)(ao:Option Addr)(n c:Nat)(bs:List Nat)(W:Int)(w:World)(hl:bs.length=n)(hcap:n<=c)(hno:ao=none->c=0)(hr:RdB w ao bs):
 Calls Tryz.prog 14 #[.int .i64 (k:Int),.slice ao n c,.int .i64 W] w fun e w'=>(((¬ ∃d,nQ bs d)/\e=.returned (.agg #[.int .u64 (M.hiN (seO (M.fm k) (aC bs)).1:Int),.int .u64 (M.loN (seO (M.fm k) (aC bs)).1:Int),.int .i64 (seO (M.fm k) (aC bs)).2.1,.int .i64 (seO (M.fm k) (aC bs)).2.2,.int .i64 0,.bool true]))\/ ∃d,nQ bs d/\e=.returned (faV (M.fm k) d W))/\Below w.heap.size w w':=by
 have hF:=M.iM k;have p1:=hF.p1
 have kE:=fun(v:World)=>bK k hk v
 simp only[dv]at kE
 have kS:∀u:World,Below w.heap.size w u->∀v:World,Below u.heap.size u v->Calls Tryz.prog 8 #[.slice ao n c] v fun e w'=>∃a cc,e=.returned (.agg #[.int .i64 (aC bs).1.kind,.bool (aC bs).1.neg,.slice a (aC bs).1.digits.length cc,.int .i64 (aC bs).1.exp,.int .i64 (aC bs).2.1,.int .i64 (aC bs).2.2])/\((∀x∈(aC bs).1.digits,x<256)->OwnV w' v.heap.size (.slice a (aC bs).1.digits.length cc) (aC bs).1.digits)/\Below v.heap.size v w':=fun u hu v hv=>by
  refine(jD ao n c bs v hl hcap hno (hr.below (hu.trans (hv.mono hu.size))) _ rfl).mono ?_;rintro e w' ⟨ra,rc,rfl,ho,hb⟩
  exact⟨ra,rc,rfl,fun hx=>OwnV.of_own ho hx,hb⟩
 by_cases hfin:∃d,nQ bs d
 . obtain⟨d,hd⟩:=hfin;obtain⟨h1,hs,h2,h3,h4,h5⟩:=id hd;rw[h1]at kS;simp only at kS;have e1:=hs.exp1;have e2:=hs.exp2
   have d256:∀x∈d.digits,x<256:=fun x hx=>by have:=hs.dig x hx;omega
   have kL:∀v:World,Below w.heap.size w v->Calls Tryz.prog 37 #[.int .i64 (k:Int),.slice ao n c] v fun e w'=>∃a cc,e=.returned (.tuple #[.agg #[.int .i64 d.kind,.bool d.neg,.slice a d.digits.length cc,.int .i64 d.exp],.int .i64 ((d.digits.length-19:Nat):Int),.int .i64 (fk d),.bool true])/\OwnV w' 0 (.slice a d.digits.length cc) d.digits/\Below v.heap.size v w':=fun v hv=>by
    refine(F9 (k:Int) ao n c v _ _ _ _ _ _ kE d.kind d.neg d.digits.length d.exp 0 0 (fun v lo a cc=>(∀x∈d.digits,x<256)->OwnV v lo (.slice a d.digits.length cc) d.digits) (fun _ _ _ _ _ h hb=>fun q=>(h q).below hb) (fun _ _ _ _ p x h hp=>fun q=>(h q).far p hp x) (fun u hu=>kS v hv u hu) (by omega) rfl h2 h3 (by omega) (by omega) (by omega) (d.digits.length-19) rfl (fk d) rfl).mono ?_
    rintro e w' ⟨a,cc,rfl,ho,hb⟩;exact⟨a,cc,rfl,(ho d256).low (Nat.zero_le _),hb⟩
   have kT:=fun v:World=>iX (fk d) W v
   by_cases hin:fIn (fk d) W
   . rw[show tpv (fk d) W=pwv (fk d) W (fT (fk d) W) (cE (fk d) W) (fx (fk d) W) true from if_pos hin]at kT;unfold pwv at kT;have hlt:=GW hs.dig;have hpos:=OO hs h3;have hT:fT (fk d) W<2^128:=j3 _ _ hin;have hTp:0<fT (fk d) W:=Nat.lt_of_lt_of_le (Nat.pow_pos (by omega)) (yN _ _ hin).1
     have hUp:fT (fk d) W<=fU (fk d) W:=by unfold fU;split<;>omega
     obtain⟨hA,hB⟩:=OB hs.dig hin;obtain⟨b1,b2⟩:=xW hin;have pA:0<fA d W:=Nat.mul_pos hpos hTp
     have pB:0<fB d W:=by
      unfold fB;split
      . exact Nat.mul_pos (by omega) (by omega)
      . exact Nat.mul_pos hpos (by omega)
     have pP:0<fP d W:=Nat.pow_pos (by omega);have pQ:0<fQ d W:=Nat.pow_pos (by omega)
     have kR:∀N,0<N->(D N).length<=800->∀(v:World)(a b:Option Addr)(c e:Nat),(D N).length<=c->Rd v a (D N)->Rd v b (D (fQ d W))->Calls Tryz.prog 24 #[.int .i64 (k:Int),.bool d.neg,.slice a (D N).length c,.slice b (D (fQ d W)).length e] v fun e w'=>e=.returned (.agg #[.int .u64 (M.hiN (rY (M.fm k) d.neg N (fQ d W)):Int),.int .u64 (M.loN (rY (M.fm k) d.neg N (fQ d W)):Int),.int .i64 (rF (M.fm k) N (fQ d W)),.bool true])/\Below v.heap.size v w':=fun N hN lN v a b c e hc ra rb=>by
      rw[(LK hN).1,(LK (ng:=d.neg) hN).2];exact nH k hk d.neg a b c e N (fQ d W) v hN pQ (by omega) (Nat.le_trans (L9 b2) (by omega)) hc ra rb
     have hBo:fh d*fU (fk d) W<2^193:=mR (by omega) (zK hin);have hB2:(fh d+1)*fU (fk d) W<2^193:=mR (by omega) (zK hin);have lA:=lG _ 193 7 hA (by omega);have lB:=lG _ 193 7 hB (by omega)
     refine(FQ (k:Int) ao n c W w d.kind d.neg d.digits.length (d.digits.length-19) (d.digits.length-(d.digits.length-19)) d.exp (fk d) (cE (fk d) W) (fT (fk d) W) (fx (fk d) W) (fh d) (fh d+1) (fA d W) (fh d*fU (fk d) W) ((fh d+1)*fT (fk d) W) ((fh d+1)*fU (fk d) W) (fB d W) (fA d W*fP d W) (fB d W*fP d W) (fQ d W) _ _ _ _ _ _ (faV (M.fm k) d W) (fun v a cc=>OwnV v 0 (.slice a d.digits.length cc) d.digits) (fun _ _ _ _ h hb=>h.below hb) (fun v a cc ho=>?_)
      (by rw[IntKind.wrap_i64];omega) (by omega) (OP _ hpos (by omega)) (by rw[IntKind.wrap_u64];omega) rfl (by omega) (by omega) (fun hh=>wT hin hh) (fun hh=>tG (fun h2=>hh h2.2)) kL kT
      (fun v a cc ho=>nY a _ cc (d.digits.take (d.digits.length-(d.digits.length-19))) v (by rw[List.length_take];omega) (by omega) (fun x hx=>hs.dig x (List.mem_of_mem_take hx)) (ho.rd.front _))
      (fun v a cc hr=>mK a _ cc (fh d) v rfl (Nat.le_trans (lG _ 64 2 (by omega) (by omega)) (by omega)) hr)
      (fun v=>uD (fk d) W hin (fh d) (by omega) v) (fun v=>uD (fk d) W hin (fh d+1) (by omega) v)
      (fun N v a cc hN hr=>QB N (by rcases hN with rfl|rfl|rfl<;>assumption) v a cc hr) (fun v=>aU 1 v (by omega))
      (fun hE=>?_) (fun hE=>?_) (kR _ (Nat.mul_pos pA pP) (DK hA b1)) (kR _ (Nat.mul_pos pB pP) (DK hB b1))).mono fun e w' ⟨he,hb⟩=>⟨.inr ⟨d,hd,he⟩,hb⟩
     . obtain⟨a',c',hv,q1,q2,q3,q4,q5⟩:=ho;simp only[Value.slice.injEq]at hv;obtain⟨rfl,_,rfl⟩:=hv;obtain⟨b,off,cur,e,_⟩:=q5 h3;exact⟨q1,q2,b,off,e⟩
     . obtain⟨s,hs'⟩:=Int.eq_ofNat_of_zero_le hE
       refine⟨by unfold fQ;rw[show(-(cE (fk d) W)).toNat=0 by omega,Nat.pow_zero],fun v a cc hr=>?_,fun v a cc hr=>?_⟩
       . have:=aN a _ cc s (fA d W) v rfl (by omega) (by omega) hr;unfold fP
         rwa[<-hs',show s=(cE (fk d) W).toNat by omega]at this
       . have:=aN a _ cc s (fB d W) v rfl (by omega) (by omega) hr;unfold fP
         rwa[<-hs',show s=(cE (fk d) W).toNat by omega]at this
     . have e0:fP d W=1:=by unfold fP;rw[show(cE (fk d) W).toNat=0 by omega,Nat.pow_zero]
       refine⟨by rw[e0,Nat.mul_one],by rw[e0,Nat.mul_one],fun v=>?_⟩
       have:=GC (-(cE (fk d) W)).toNat v (by omega)
       rwa[Int.toNat_of_nonneg (by omega)]at this
   . rw[show tpv (fk d) W=pwv 0 0 0 0 false false from if_neg hin]at kT;unfold pwv at kT;simp only[hi0,lo0]at kT
     refine(DU (k:Int) ao n c W w d.kind d.neg d.digits.length (d.digits.length-19) d.exp (fk d) (fun v hv=>(kL v hv).mono fun e w' ⟨a,cc,he,_,hb⟩=>⟨a,cc,he,hb⟩) kT).mono fun e w' ⟨he,hb⟩=>⟨.inr ⟨d,hd,by rw[tG (fun h=>hin h.1)];exact he⟩,hb⟩
 . refine(uZ (k:Int) ao n c W w _ _ _ _ _ (fun v hv=>?_) (fun v hv=>AB k hk ao n c bs v hl hcap hno (hr.below hv) hfin)).mono fun e w' ⟨he,hb⟩=>⟨.inl ⟨hfin,he⟩,hb⟩
   refine(yB (k:Int) ao n c v _ _ _ _ _ _ kE (aC bs).1.kind (aC bs).1.neg (aC bs).1.digits.length (aC bs).1.exp (aC bs).2.1 (aC bs).2.2 (fun v lo a cc=>(∀x∈(aC bs).1.digits,x<256)->OwnV v lo (.slice a (aC bs).1.digits.length cc) (aC bs).1.digits) (fun _ _ _ _ _ h hb=>fun q=>(h q).below hb) (fun _ _ _ _ p x h hp=>fun q=>(h q).far p hp x) (fun u hu=>kS v hv u hu) ?_)
   rcases sB bs with⟨h1,h2⟩|⟨d,h1,h2,h3⟩
   . exact .inr (.inl h1)
   . rw[h1]
     refine .inr (.inr (Classical.byContradiction fun hn=>hfin ⟨d,h1,M.dY h2,?_,?_,?_,h3⟩))
     . exact Classical.byContradiction fun hh=>hn (.inl hh)
     . exact Nat.pos_of_ne_zero fun hh=>hn (.inr hh)
     . rcases M.fY h2 with x|x|x
       . omega
       . rw[x.2];simp
       . rw[x.2.2];simp

theorem I3 (f:Int)(hf:f<0\/4<=f)(ao:Option Addr)(n c:Nat)(bs:List Nat)(W:Int)(w:World)(hl:bs.length=n)(hcap:n<=c)(hno:ao=none->c=0)(hr:RdB w ao bs):
 Calls Tryz.prog 14 #[.int .i64 f,.slice ao n c,.int .i64 W] w fun e w'=>e=.returned (.agg #[.int .u64 0,.int .u64 0,.int .i64 4,.int .i64 0,.int .i64 0,.bool true])/\Below w.heap.size w w':=by
 refine uZ f ao n c W w _ _ _ _ _ (fun v hv=>?_) (fun v hv=>uH f hf ao n c v)
 refine yB f ao n c v 0 0 0 0 0 false (fun v=>iR f v hf) (aC bs).1.kind (aC bs).1.neg (aC bs).1.digits.length (aC bs).1.exp (aC bs).2.1 (aC bs).2.2 (fun _ _ _ _=>True) (fun _ _ _ _ _ h hb=>h) (fun _ _ _ _ p x h hp=>h) (fun u hu=>?_) (.inl rfl)
 refine(jD ao n c bs u hl hcap hno (hr.below (hv.trans (hu.mono hv.size))) _ rfl).mono ?_;rintro e w' ⟨ra,rc,rfl,ho,hb⟩;exact⟨ra,rc,rfl,trivial,hb⟩

def Tx (B:Nat)(w0 w:World)(ra:Option Addr)(n rc:Nat)(xs:List Nat):Prop:=
 xs.length=n/\w.ownsRow B 5 1 (.slice ra n rc) n (UB xs)/\Below B w0 w/\B<=w.heap.size

theorem Tx.nil (w:World):Tx w.heap.size w w none 0 0 []:=⟨rfl,World.ownsRow_nil _ _ _ _,Below.refl _ _,Nat.le_refl _⟩

theorem Tx.alloc {B n rc:Nat}{w0 w:World}{ra:Option Addr}{xs:List Nat}(h:Tx B w0 w ra n rc xs)(o:Obj):Tx B w0 (w.alloc o) ra n rc xs:=
 ⟨h.1,h.2.1.alloc o,h.2.2.1.alloc h.2.2.2 o,by rw[World.size_alloc];exact Nat.le_succ_of_le h.2.2.2⟩

theorem Tx.on {B n rc:Nat}{w0 w:World}{ra:Option Addr}{xs:List Nat}(h:Tx B w0 w ra n rc xs):Tx B w w ra n rc xs:=
 ⟨h.1,h.2.1,Below.refl _ _,h.2.2.2⟩

theorem Tx.src {ops:Array Oper}{rest:List Oper}{o:Oper}{a:Act}{Q:Exit->Act->World->Prop}{B n rc:Nat}{w0 w:World}{ra:Option Addr}{xs:List Nat}(h:Tx B w0 w ra n rc xs)(hgd:o.guard=none)(s x:Operand)
 (ho:o.op=.call { callee:=.builtin .append,args:=#[s,x],argTypes:=#[22,22] })(hs:a.eval s=.slice ra n rc)(ao:Option Addr)(m c:Nat)(ys:List Nat)(hx:a.eval x=.slice ao m c)(hl:ys.length=m)
 (hno:ao=none->c=0)(hr:RdB w ao ys)(hn:n+m<=1000000)
 (k:∀ra' rc' w',Tx B w0 w' ra' (n+m) rc' (xs++ys)->wpList Tryz.prog ops Q rest (a.put o.dst (.slice ra' (n+m) rc')) w'):wpList Tryz.prog ops Q (o::rest) a w:=by
 obtain⟨h1,h2,h3,h4⟩:=h;refine dC hgd s x ho w B _ n xs hs h2 ao m c ys hx hl hno hr hn h4 ?_;intro ra' rc' w' ho hg
 exact k ra' rc' w' ⟨by rw[List.length_append,h1,hl],ho,h3.grown hg h4 (fun j e=>bU h2 e),Nat.le_trans h4 hg.size⟩

theorem qW (w:World)(c:Nat)(hc:c<256):RdB (w.alloc (.cells #[.int .u8 (c:Int)] 5)) (some ⟨w.heap.size,0,none⟩) [c]:=by
 refine⟨fun x hx=>by simp at hx;omega,fun _=>⟨w.heap.size,0,rfl,fun i hi=>?_⟩⟩
 obtain rfl:i=0:=by simp at hi;exact hi
 exact(Cls.new w #[.int .u8 (c:Int)] 5).cell 0 (x:=.int .u8 (c:Int)) rfl

theorem Tx.one {ops:Array Oper}{rest:List Oper}{o:Oper}{a:Act}{Q:Exit->Act->World->Prop}{B n rc:Nat}{w0 w:World}{ra:Option Addr}{xs:List Nat}(h:Tx B w0 w ra n rc xs)(ci:Int)(c:Nat)(hci:ci=(c:Int))(hc:c<256)(hgd:o.guard=none)(s x:Operand)
 (ho:o.op=.call { callee:=.builtin .append,args:=#[s,x],argTypes:=#[22,22] })(hs:a.eval s=.slice ra n rc)(hx:a.eval x=.slice (some ⟨w.heap.size,0,none⟩) 1 1)(hn:n+1<=1000000)
 (k:∀ra' rc' w',Tx B w0 w' ra' (n+1) rc' (xs++[c])->wpList Tryz.prog ops Q rest (a.put o.dst (.slice ra' (n+1) rc')) w'):wpList Tryz.prog ops Q (o::rest) a (w.alloc (.cells #[.int .u8 ci] 5)):=by
 subst hci
 exact(h.alloc _).src hgd s x ho hs _ 1 1 [c] hx rfl (fun e=>by cases e) (qW w c hc) hn k

theorem Tx.str {ops:Array Oper}{rest:List Oper}{o:Oper}{a:Act}{Q:Exit->Act->World->Prop}{B n rc:Nat}{w0 w:World}{ra:Option Addr}{xs:List Nat}(h:Tx B w0 w ra n rc xs)(hgd:o.guard=none)(s x:Operand)
 (ho:o.op=.call { callee:=.builtin .append,args:=#[s,x],argTypes:=#[22,9] })(hs:a.eval s=.slice ra n rc)(st:ByteArray)(m:Nat)(ys:List Nat)(hx:a.eval x=.string st)(hm:st.size=m)(hy:aX st=ys)(hn:n+m<=1000000)
 (k:∀ra' rc' w',Tx B w0 w' ra' (n+m) rc' (xs++ys)->wpList Tryz.prog ops Q rest (a.put o.dst (.slice ra' (n+m) rc')) w'):wpList Tryz.prog ops Q (o::rest) a w:=by
 subst hm;subst hy;obtain⟨h1,h2,h3,h4⟩:=h;refine sG hgd s x ho w B _ n xs hs h2 st hx hn h4 ?_;intro ra' rc' w' ho hg;have hl:=gE ho
 exact k ra' rc' w' ⟨hl,ho,h3.grown hg h4 (fun j e=>bU h2 e),Nat.le_trans h4 hg.size⟩

theorem Tx.below {B n rc:Nat}{w0 w w':World}{ra:Option Addr}{xs:List Nat}(h:Tx B w0 w ra n rc xs)(hb:Below w.heap.size w w'):Tx B w0 w' ra n rc xs:=by
 obtain⟨h1,h2,h3,h4⟩:=h;refine⟨h1,⟨h2.1,?_⟩,h3.trans (hb.mono h4),Nat.le_trans h4 hb.size⟩;rcases h2.2 with e|⟨g,cap,cur,e1,e2,e3,e4⟩
 . exact .inl e
 . exact .inr ⟨g,cap,cur,e1,e2,(hb.block g (Array.getElem?_eq_some_iff.1 e3).1).trans e3,e4⟩

theorem Tx.drew {B n rc:Nat}{w0 w:World}{ra:Option Addr}{xs:List Nat}(h:Tx B w0 w ra n rc xs):Tx B w0 w.drew ra n rc xs:=h.below (Below.refl _ _).drew

theorem Tx.step {ops:Array Oper}{o:Oper}{a:Act}{K:Act->World->Prop}{Q:Exit->Act->World->Prop}{E:Prop}{B n rc:Nat}{w0 w:World}{ra:Option Addr}{xs:List Nat}(h:Tx B w0 w ra n rc xs)(hgd:o.guard=none)(s x:Operand)
 (ho:o.op=.call { callee:=.builtin .append,args:=#[s,x],argTypes:=#[22,22] })(hs:a.eval s=.slice ra n rc)(ad:Addr)(m c:Nat)(ys:List Nat)(hx:a.eval x=.slice (some ad) m c)(hl:ys.length=m)(hm:0<m)
 (hr:RdB w (some ad) ys)(hn:n+m<=1000000)
 (k:∀g rc' w',Tx B w0 w' (some ⟨g,0,none⟩) (n+m) rc' (xs++ys)->w.grownBy w' (Value.ownBlock (.slice ra n rc))->K (a.put o.dst (.slice (some ⟨g,0,none⟩) (n+m) rc')) w'):
 if Region.wanted o (yielded ops a.tmps)=true then Oper.wp Tryz.prog o a w K Q else E:=by
 obtain⟨i0,hi,hz0,hz1,hz2⟩:=info_parts Tryz.infoY;obtain⟨h1,h2,h3,h4⟩:=h;refine step_append_lies w hgd s x 22 ho B 5 i0 (.int .u8 0) 1 1 Tryz.underlying22 hi hz0 hz1 hz2 rfl (by decide) (.slice ra n rc) n (UB xs) hs h2 ad m c (UB ys) hx (by rw[aP,hl,Nat.mul_one]) ?_ (iB _) hm (by unfold maxLen;omega) (by omega) h4 w.heap.size rfl ?_
 . intro j u hj
   have hjl:j<ys.length:=by
    rcases Nat.lt_or_ge j ys.length with k|k
    . exact k
    . rw[List.getElem?_eq_none (by rw[aP];exact k)]at hj;cases hj
   obtain⟨b,off,e2,hc⟩:=hr.2 (by omega);cases e2;rw[eJ ys j hjl]at hj;cases hj;rw[Addr.add_lit];exact hc j hjl
 . intro g cap w' ho' hg _ _;rw[<-cN]at ho'
   exact k g cap w' ⟨by rw[List.length_append,h1,hl],ho',h3.grown hg h4 (fun j e=>bU h2 e),Nat.le_trans h4 hg.size⟩ hg

theorem yT {ops:Array Oper}{rest:List Oper}{o:Oper}{a:Act}{Q:Exit->Act->World->Prop}(hgd:o.guard=none)(s x:Operand)
 (ho:o.op=.call { callee:=.builtin .append,args:=#[s,x],argTypes:=#[22,22] })(w:World)(ad:Addr)(n:Nat)(xs:List Nat)(hs:a.eval s=.slice (some ad) n n)(hxl:xs.length=n)(hn0:0<n)(hrs:RdB w (some ad) xs)
 (ao:Addr)(m c:Nat)(ys:List Nat)(hx:a.eval x=.slice (some ao) m c)(hl:ys.length=m)(hm:0<m)(hr:RdB w (some ao) ys)(hn:n+m<=1000000)
 (k:∀ra rc w',w'.ownsRow w.heap.size 5 1 (.slice ra (n+m) rc) (n+m) (UB (xs++ys))->Below w.heap.size w w'->wpList Tryz.prog ops Q rest (a.put o.dst (.slice ra (n+m) rc)) w'):wpList Tryz.prog ops Q (o::rest) a w:=by
 obtain⟨i0,hi,hz0,hz1,hz2⟩:=info_parts Tryz.infoY
 have reads:∀(p:Addr)(zs:List Nat),0<zs.length->RdB w (some p) zs->∀j u,(UB zs)[j]? =some u->w.cell? (p.add j)=some u:=by
  intro p zs h0 hz j u hj
  have hjl:j<zs.length:=by
   rcases Nat.lt_or_ge j zs.length with k|k
   . exact k
   . rw[List.getElem?_eq_none (by rw[aP];exact k)]at hj;cases hj
  obtain⟨b,off,e2,hc⟩:=hz.2 h0;cases e2;rw[eJ zs j hjl]at hj;cases hj;rw[Addr.add_lit];exact hc j hjl
 have hr':=run_append_grow (P:=Tryz.prog) w 22 o.type 5 i0 (.int .u8 0) Tryz.underlying22 hi hz0 ad n n (UB xs) (by rw[aP,hxl,hz1,Nat.mul_one]) (reads ad xs (by omega) hrs) ao m c (UB ys) (by rw[aP,hl,hz1,Nat.mul_one]) (reads ao ys (by omega) hr) (by omega) (by omega) (growslice_fits (by omega) (by rw[hz2];omega))
 refine wpList_plain hgd fun _ hK=>?_
 unfold Oper.wp execOp;simp only[ho,resolve,invoke,builtin,Sem.run_bind,Sem.run_pure,Result.andThen_ok,List.map_toArray,List.map_cons,List.map_nil,hs,hx,hr'];have hge:=grownCap_ge w (n+m) n 5
 refine hK _ _ (k _ _ _ ⟨by rw[aP,List.length_append,hxl,hl,Nat.mul_one],.inr ⟨w.heap.size,_,_,rfl,Nat.le_refl _,heap_alloc_new w.drew _,hge,grownCap_le_maxLen w (n+m) n 5 (by unfold maxLen;omega),?_,?_⟩⟩ ⟨rfl,rfl,rfl,by simp,fun k hk=>heap_alloc_old w.drew _ hk⟩)
 . simp only[Array.size_append,List.size_toArray,size_zeroCells,aP,hxl,hl]
   show n+m+(grownCap w (n+m) n 5-(n+m))*1=_
   omega
 . rw[cN];simp only[Array.toList_append,List.append_assoc];rw[<-List.append_assoc];have:(n+m)*1=(UB xs++UB ys).length:=by rw[List.length_append,aP,aP,hxl,hl];omega
   rw[this];exact List.take_left

theorem NO {w:World}{g j:Nat}{cs:Array Value}{t:TypeId}{fz:Nat×Nat}(hg:w.heap[g]? =some (.cells cs t fz))(h:fz.2<=j\/j<fz.1):w.frozen? ⟨g,j,none⟩=false:=by
 obtain⟨p,q⟩:=fz
 simp[World.frozen?,hg]
 intro h1;rcases h with h|h
 . exact h
 . exact absurd h1 (by simp at h;omega)

def Tw (w:World)(lo:Nat)(ra:Option Addr)(n rc:Nat):Prop:=
 n<=100000/\n<=rc/\((ra=none/\rc=0)\/ ∃b,ra=some ⟨b,0,none⟩/\lo<=b/\b<w.heap.size/\(∀i,i<rc->(w.cell? ⟨b,i,none⟩).isSome=true/\w.frozen? ⟨b,i,none⟩=false)/\∀i,i<n->∃x:Nat,x<256/\w.cell? ⟨b,i,none⟩=some (.int .u8 (x:Int)))

theorem Tw.nil (w:World)(lo:Nat):Tw w lo none 0 0:=⟨by omega,by omega,.inl ⟨rfl,rfl⟩⟩

theorem Tw.kept {w w':World}{lo n rc:Nat}{ra:Option Addr}(h:Tw w lo ra n rc)(hs:w.heap.size<=w'.heap.size)(k:∀b,lo<=b->b<w.heap.size->w'.heap[b]? =w.heap[b]?):Tw w' lo ra n rc:=by
 obtain⟨h1,h2,h3⟩:=h;refine⟨h1,h2,?_⟩;rcases h3 with e|⟨b,e1,e2,e3,e4,e5⟩
 . exact .inl e
 . have hk:=k b e2 e3
   exact .inr ⟨b,e1,e2,by omega,fun i hi=>⟨by rw[World.cell?_of_block hk];exact(e4 i hi).1,by rw[World.frozen?_of_block hk];exact(e4 i hi).2⟩,fun i hi=>by rw[World.cell?_of_block hk];exact e5 i hi⟩

theorem Tw.low {w:World}{lo lo' n rc:Nat}{ra:Option Addr}(h:Tw w lo ra n rc)(hl:lo'<=lo):Tw w lo' ra n rc:=by
 obtain⟨h1,h2,h3⟩:=h;refine⟨h1,h2,?_⟩;rcases h3 with e|⟨b,e1,e2,e3⟩
 . exact .inl e
 . exact .inr ⟨b,e1,by omega,e3⟩

theorem rU (f:Nat->Nat)(n i:Nat)(h:i<n):((List.range n).map f).getD i 0=f i:=by simp[List.getD_eq_getElem?_getD,h]

theorem Tw.read {w:World}{lo n rc:Nat}{ra:Option Addr}(h:Tw w lo ra n rc):∃xs:List Nat,xs.length=n/\n<=rc/\(ra=none->rc=0)/\RdB w ra xs:=by
 obtain⟨h1,h2,h3⟩:=h;rcases h3 with⟨e1,e2⟩|⟨b,e1,e2,e3,e4,e5⟩
 . exact⟨[],by simp;omega,h2,fun _=>e2,by simp,fun hp=>by simp at hp⟩
 . have hf:∀i,∃x:Nat,x<256/\(i<n->w.cell? ⟨b,i,none⟩=some (.int .u8 (x:Int))):=fun i=>by
    by_cases hi:i<n
    . obtain⟨x,hx,hc⟩:=e5 i hi
      exact⟨x,hx,fun _=>hc⟩
    . exact⟨0,by omega,fun k=>absurd k hi⟩
   obtain⟨f,hf⟩:=Classical.axiomOfChoice hf
   refine⟨(List.range n).map f,by simp,h2,fun e=>(by rw[e]at e1;cases e1),fun x hx=>?_,fun _=>⟨b,0,e1,fun i hi=>?_⟩⟩
   . obtain⟨i,_,rfl⟩:=List.mem_map.1 hx;exact(hf i).1
   . have hi':i<n:=by simpa using hi
     rw[rU f n i hi',Nat.zero_add];exact(hf i).2 hi'

theorem Tw.place {w:World}{lo n rc:Nat}{ra:Option Addr}(h:Tw w lo ra n rc)(hn:0<n):∃b,ra=some ⟨b,0,none⟩/\lo<=b/\b<w.heap.size:=by
 obtain⟨h1,h2,h3⟩:=h;rcases h3 with⟨e1,e2⟩|⟨b,e1,e2,e3,e4⟩
 . omega
 . exact⟨b,e1,e2,e3⟩

theorem Tw.cell {w:World}{lo n rc b:Nat}(h:Tw w lo (some ⟨b,0,none⟩) n rc)(i:Nat)(hi:i<n):(∃x:Nat,w.cell? ⟨b,i,none⟩=some (.int .u8 (x:Int)))/\w.frozen? ⟨b,i,none⟩=false:=by
 obtain⟨h1,h2,h3⟩:=h;rcases h3 with⟨e1,e2⟩|⟨b',e1,e2,e3,e4,e5⟩
 . cases e1
 . cases e1;obtain⟨x,_,hx⟩:=e5 i hi;exact⟨⟨x,hx⟩,(e4 i (by omega)).2⟩

theorem Tw.put {w:World}{lo n rc b:Nat}(h:Tw w lo (some ⟨b,0,none⟩) n rc)(i:Nat)(v:Int)(x:Nat)(hv:v=(x:Int))(hx:x<256):Tw (w.setCell ⟨b,i,none⟩ (.int .u8 v)) lo (some ⟨b,0,none⟩) n rc:=by
 subst hv;obtain⟨h1,h2,h3⟩:=h;refine⟨h1,h2,?_⟩;rcases h3 with⟨e1,e2⟩|⟨b',e1,e2,e3,e4,e5⟩
 . cases e1
 . cases e1
   refine .inr ⟨b,rfl,e2,by simpa[World.setCell]using e3,fun j hj=>⟨?_,by rw[World.frozen?_setCell];exact(e4 j hj).2⟩,fun j hj=>?_⟩
   . exact World.isSome_setCells b [.int .u8 (x:Int)] i w _ (e4 j hj).1
   . obtain⟨y,hy,hc⟩:=e5 j hj
     by_cases e:i=j
     . subst e;exact⟨x,hx,World.cell?_setCell_same _ _ _ hc⟩
     . exact⟨y,hy,by rw[World.cell?_setCell_other _ _ _ _ (by intro e2;cases e2;exact e rfl)];exact hc⟩

theorem Tw.of_own {w:World}{lo n rc:Nat}{ra:Option Addr}{xs:List Nat}(h:w.ownsRow lo 5 1 (.slice ra n rc) n (UB xs))(hn:n<=100000)(hx:∀x∈xs,x<256):Tw w lo ra n rc:=by
 refine⟨hn,jE h,?_⟩;have hl:=gE h;rcases h.2 with⟨e,h0⟩|⟨g,cap,cur,e,g2,g3,g4,g5,g6,g7⟩
 . simp at e;exact .inl ⟨e.1,e.2.2⟩
 . simp only[Value.slice.injEq]at e;obtain⟨rfl,_,rfl⟩:=e
   refine .inr ⟨g,rfl,g2,(Array.getElem?_eq_some_iff.1 g3).1,fun i hi=>⟨?_,frozen_of_row _ _ _ _ _ g3⟩,fun i hi=>?_⟩
   . rw[cell_of_row w g i _ _ _ g3,Array.getElem?_eq_getElem (by omega)];rfl
   . have:=h.cellAt i (by omega);rw[eJ xs i (by omega)]at this;exact⟨_,M.bG (by omega) hx i,this⟩

theorem jZ {lo b:Nat}{w:World}(hb:lo<=b):∀(vs:List Value)(o:Nat)(v:World),Below lo w v->Below lo w (v.setCells b o vs)
 |[],_,_,h=>h
 |x::r,o,v,h=>jZ hb r (o+1) _ (h.setCell (p:=⟨b,o,none⟩) hb x)

theorem MC {ys:List Nat}(h:∀y∈ys,y<256)(j:Nat)(hj:j<(UB ys).length):∃x:Nat,x<256/\(UB ys)[j]=.int .u8 (x:Int):=by
 rw[aP]at hj;refine⟨_,M.bG (by omega) h j,?_⟩;have:=eJ ys j hj;rw[List.getElem?_eq_getElem (by rw[aP];exact hj)]at this;exact Option.some.inj this

theorem Tw.run {w:World}{lo n rc:Nat}{ra:Option Addr}(h:Tw w lo ra n rc)(hlo:lo<=w.heap.size)(ad:Addr)(m c:Nat)(ys:List Nat)(hl:ys.length=m)(hm:0<m)(hr:RdB w (some ad) ys)(hn:n+m<=100000)(ty:TypeId):
 ∃g cap w',(Builtin.append_ #[22,22] ty #[.slice ra n rc,.slice (some ad) m c]).run Tryz.prog w=.ok (.slice (some ⟨g,0,none⟩) (n+m) cap) w'/\Tw w' lo (some ⟨g,0,none⟩) (n+m) cap/\Below lo w w':=by
 obtain⟨i0,hi,hz0,hz1,hz2⟩:=info_parts Tryz.infoY;have h0:=h;obtain⟨xs,x1,x2,x3,rx⟩:=h.read;obtain⟨h1,h2,h3⟩:=h
 have reads:∀(p:Addr)(zs:List Nat),RdB w (some p) zs->∀j u,(UB zs)[j]? =some u->w.cell? (p.add j)=some u:=by
  intro p zs hz j u hj
  have hjl:j<zs.length:=by
   rcases Nat.lt_or_ge j zs.length with k|k
   . exact k
   . rw[List.getElem?_eq_none (by rw[aP];exact k)]at hj;cases hj
  obtain⟨b,off,e2,hc⟩:=hz.2 (by omega);cases e2;rw[eJ zs j hjl]at hj;cases hj;rw[Addr.add_lit];exact hc j hjl
 have h256:∀x∈xs++ys,x<256:=fun x hx=>(List.mem_append.1 hx).elim (rx.1 x) (hr.1 x)
 have hyl:(UB ys).length=m*1:=by rw[aP,hl,Nat.mul_one]
 rcases h3 with⟨rfl,rfl⟩|⟨b,rfl,e2,e3,e4,e5⟩
 . obtain rfl:n=0:=by omega
   obtain⟨g,cap,w',e,o',G,_,_⟩:=run_append_lies (P:=Tryz.prog) w 22 ty lo 5 i0 (.int .u8 0) 1 1 Tryz.underlying22 hi hz0 hz1 hz2 rfl (by decide) (.slice none 0 0) 0 [] (World.ownsRow_nil _ _ _ _) ad m c (UB ys) hyl (reads ad ys hr) (iB _) hm (by unfold maxLen;omega) (by omega) hlo w.heap.size rfl;rw[List.nil_append]at o'
   exact⟨g,cap,w',e,Tw.of_own o' hn hr.1,(Below.refl _ _).grown G hlo (fun j ej=>by cases ej)⟩
 . by_cases hroom:n+m<=rc
   . have hl1:(UB ys).length=m*i0.size:=by rw[hz1];exact hyl
     have e:=run_append_room_cells (P:=Tryz.prog) w 22 ty 5 i0 Tryz.underlying22 hi b 0 n rc ad m c (UB ys) hl1 (reads ad ys hr) (iB _) hroom (fun j hj=>by rw[hz1,Nat.mul_one,Nat.zero_add];exact(e4 (n+j) (by rw[hyl]at hj;omega)).1) (fun j hj=>by rw[hz1,Nat.mul_one,Nat.zero_add];exact(e4 (n+j) (by rw[hyl]at hj;omega)).2)
     rw[hz1,Nat.mul_one,Nat.zero_add]at e;have hB:=jZ (w:=w) e2 (UB ys) n w (Below.refl _ _)
     refine⟨b,rc,_,e,⟨hn,hroom,.inr ⟨b,rfl,e2,Nat.lt_of_lt_of_le e3 hB.size,fun i hi=>⟨World.isSome_setCells b _ n w _ (e4 i hi).1,by rw[World.frozen?_setCells];exact(e4 i hi).2⟩,fun i hi=>?_⟩⟩,hB⟩
     by_cases hin:i<n
     . obtain⟨x,hx,hc⟩:=e5 i hin
       exact⟨x,hx,by rw[World.cell?_setCells_out b _ n w _ (fun _ _=> .inl hin)];exact hc⟩
     . obtain⟨j,rfl⟩:∃j,i=n+j:=⟨i-n,by omega⟩;have hj:j<(UB ys).length:=by rw[hyl];omega
       obtain⟨x,hx,hu⟩:=MC hr.1 j hj
       exact⟨x,hx,by rw[World.cell?_setCells_in b _ n w (fun j hj=>(e4 (n+j) (by rw[hyl]at hj;omega)).1) j hj,hu]⟩
   . obtain⟨v',w',e,o',G⟩:=run_append_arg_grows (P:=Tryz.prog) w 22 ty 5 i0 (.int .u8 0) 1 1 Tryz.underlying22 hi hz0 hz1 hz2 rfl (by decide) ⟨b,0,none⟩ n rc (UB xs) (by rw[aP,x1,Nat.mul_one]) (reads _ xs rx) ad m c (UB ys) hyl (reads ad ys hr) (by omega) (by unfold maxLen;omega) (by omega);obtain⟨g,cap,rfl,_,_⟩:=o'.form (by omega);rw[<-cN]at o'
     exact⟨g,cap,w',e,(Tw.of_own o' hn h256).low hlo,(Below.refl _ _).grown G hlo (fun j ej=>by cases ej)⟩

theorem Tw.of_str (w:World)(s:ByteArray)(hs:s.size<=100000):Tw (Lib.bytesWorld w 5 s) w.heap.size (some ⟨w.heap.size,0,none⟩) s.size (grownCap w s.size 0 5)/\Below w.heap.size w (Lib.bytesWorld w 5 s):=by
 have hge:=grownCap_ge w s.size 0 5
 have hsz:(Lib.bytesCells w 5 s).size=grownCap w s.size 0 5:=by
  unfold Lib.bytesCells;simp only[Array.size_append,Array.size_map,Array.size_replicate]
  show s.size+_=_
  omega
 have hB:=Lib.bytesWorld_at_new w 5 s
 refine⟨⟨hs,hge,.inr ⟨w.heap.size,rfl,Nat.le_refl _,by rw[Lib.bytesWorld_size];omega,fun i hi=>⟨?_,NO hB (.inr (by show i<_;omega))⟩,fun i hi=>⟨_,?_,Lib.bytesWorld_cell w 5 s i hi⟩⟩⟩,⟨?_,?_,?_,by rw[Lib.bytesWorld_size];omega,fun k hk=>Lib.bytesWorld_at_old w 5 s k hk⟩⟩
 . rw[cell_of_row _ _ i _ _ _ hB,Array.getElem?_eq_getElem (by omega)];rfl
 . exact UInt8.toNat_lt _
 . simp[Lib.bytesWorld,World.freeze];rfl
 . simp[Lib.bytesWorld,World.freeze]
 . simp[Lib.bytesWorld,World.freeze];rfl

theorem Tw.of_const (w:World)(ys:List Nat)(n:Nat)(hl:ys.length=n)(hn:n<=100000)(hy:∀y∈ys,y<256)(cs:Array Value)(hc:cs=(UB ys).toArray)(q:Nat):Tw (w.alloc (.cells cs 5 (n,q))) w.heap.size (some ⟨w.heap.size,0,none⟩) n n:=by
 subst hc;have hB:(w.alloc (.cells (UB ys).toArray 5 (n,q))).heap[w.heap.size]? =some (.cells (UB ys).toArray 5 (n,q)):=heap_alloc_new w _
 refine⟨hn,Nat.le_refl _,.inr ⟨w.heap.size,rfl,Nat.le_refl _,by simp,fun i hi=>⟨?_,NO hB (.inr hi)⟩,fun i hi=>⟨_,M.bG (by omega) hy i,?_⟩⟩⟩
 . rw[cell_of_row _ _ i _ _ _ hB,List.getElem?_toArray,eJ ys i (by omega)];rfl
 . rw[cell_of_row _ _ i _ _ _ hB,List.getElem?_toArray,eJ ys i (by omega)]

def Nt (w0 v:World)(ao:Option Addr)(n c:Nat)(ra:Option Addr)(m rc:Nat):Prop:=Rs w0 v ao n c/\Tw v (w0.heap.size+1) ra m rc

theorem Rs.lows {w0 v v':World}{ao:Option Addr}{n c:Nat}(h:Rs w0 v ao n c)(hb:Below (w0.heap.size+1) v v'):Rs w0 v' ao n c:=by
 obtain⟨i,h1,h2,h3⟩:=h;exact⟨i,h1,(hb.block _ (Nat.lt_succ_self _)).trans h2,h3.trans (hb.mono (Nat.le_succ _))⟩

theorem Nt.nil {w0 v:World}{ao:Option Addr}{n c:Nat}(h:Rs w0 v ao n c):Nt w0 v ao n c none 0 0:=⟨h,Tw.nil _ _⟩

theorem Nt.sx {w0 v v':World}{ao ra:Option Addr}{n c m rc:Nat}(h:Nt w0 v ao n c ra m rc)(hr:Rs w0 v' ao n c)(hx:Sx w0.heap.size v v'):Nt w0 v' ao n c ra m rc:=⟨hr,h.2.kept hx.1 (fun b h1 h2=>hx.2 b h2 (by omega))⟩

theorem Nt.keep {w0 v v':World}{ao ra:Option Addr}{n c m rc:Nat}(h:Nt w0 v ao n c ra m rc)(hb:Below v.heap.size v v'):Nt w0 v' ao n c ra m rc:=⟨h.1.keep hb,h.2.kept hb.size (fun b _ h2=>hb.block b h2)⟩

theorem Nt.alloc {w0 v:World}{ao ra:Option Addr}{n c m rc:Nat}(h:Nt w0 v ao n c ra m rc)(o:Obj):Nt w0 (v.alloc o) ao n c ra m rc:=h.keep ((Below.refl _ _).alloc (Nat.le_refl _) _)

theorem Nt.drew {w0 v:World}{ao ra:Option Addr}{n c m rc:Nat}(h:Nt w0 v ao n c ra m rc):Nt w0 v.drew ao n c ra m rc:=h.keep (Below.refl _ _).drew

theorem Nt.next {w0 v:World}{ao ra:Option Addr}{n c m rc:Nat}{bs:List Nat}(h:Nt w0 v ao n c ra m rc)(hl:bs.length=n)(hn:n<=1048576)(hb:RdB w0 ao bs):
 Calls Tryz.prog 44 #[.pointer (some ⟨w0.heap.size,0,none⟩)] v fun e v'=>∃x:Nat,x<256/\e=.returned (.int .i64 (x:Int))/\Nt w0 v' ao n c ra m rc:=
 (cQ hl hn hb h.1).mono (fun e v' ⟨x,hx,he,hr,hs⟩=>⟨x,hx,he,h.sx hr hs⟩)

theorem Nt.app {ops:Array Oper}{rest:List Oper}{o:Oper}{a:Act}{Q:Exit->Act->World->Prop}{w0 v:World}{ao ra:Option Addr}{n c m rc:Nat}(h:Nt w0 v ao n c ra m rc)(hgd:o.guard=none)(s x:Operand)
 (ho:o.op=.call { callee:=.builtin .append,args:=#[s,x],argTypes:=#[22,22] })(hs:a.eval s=.slice ra m rc)(ad:Addr)(k c':Nat)(ys:List Nat)(hx:a.eval x=.slice (some ad) k c')(hl:ys.length=k)(hm:0<k)(hr:RdB v (some ad) ys)(hn:m+k<=100000)
 (K:∀g rc' v',Nt w0 v' ao n c (some ⟨g,0,none⟩) (m+k) rc'->wpList Tryz.prog ops Q rest (a.put o.dst (.slice (some ⟨g,0,none⟩) (m+k) rc')) v'):wpList Tryz.prog ops Q (o::rest) a v:=by
 obtain⟨g,cap,v',e,T,B⟩:=h.2.run h.1.lt ad k c' ys hl hm hr hn o.type
 refine wpList_plain hgd fun _ hK=>?_
 unfold Oper.wp execOp;simp only[ho,resolve,invoke,builtin,Sem.run_bind,Sem.run_pure,Result.andThen_ok,List.map_toArray,List.map_cons,List.map_nil,hs,hx,e];exact hK _ _ (K g cap v' ⟨h.1.lows B,T⟩)

theorem Nt.one {ops:Array Oper}{rest:List Oper}{o:Oper}{a:Act}{Q:Exit->Act->World->Prop}{w0 v:World}{ao ra:Option Addr}{n c m rc:Nat}(h:Nt w0 v ao n c ra m rc)(ci:Int)(cn:Nat)(hci:ci=(cn:Int))(hc:cn<256)(hgd:o.guard=none)(s x:Operand)
 (ho:o.op=.call { callee:=.builtin .append,args:=#[s,x],argTypes:=#[22,22] })(hs:a.eval s=.slice ra m rc)(hx:a.eval x=.slice (some ⟨v.heap.size,0,none⟩) 1 1)(hn:m+1<=100000)
 (K:∀g rc' v',Nt w0 v' ao n c (some ⟨g,0,none⟩) (m+1) rc'->wpList Tryz.prog ops Q rest (a.put o.dst (.slice (some ⟨g,0,none⟩) (m+1) rc')) v'):wpList Tryz.prog ops Q (o::rest) a (v.alloc (.cells #[.int .u8 ci] 5)):=by
 subst hci;exact(h.alloc _).app hgd s x ho hs _ 1 1 [cn] hx rfl (by omega) (qW v cn hc) hn K

def PrP (v w':World)(e:Ending):Prop:=
 ∃ra n rc k,e=.returned (.agg #[.slice ra n rc,.int .i64 k])/\n<=99999/\Tw w' v.heap.size ra n rc/\Below v.heap.size v w'

theorem jK {w v2 v5:World}{n rc:Nat}{ra:Option Addr}{xs:List Nat}(T:Tx v2.heap.size v2 v5 ra n rc xs)(h:∀x∈xs,x<256)(b0:Below w.heap.size w v2)(hlt:w.heap.size+1<v2.heap.size)(k:Int)(hn:n<=99999):
 PrP w ((v5.setCell ⟨w.heap.size+1,0,none⟩ (.slice ra n rc)).setCell ⟨w.heap.size+1,1,none⟩ (.int .i64 k)) (.returned (.agg #[.slice ra n rc,.int .i64 k])):=by
 obtain⟨h1,h2,h3,h4⟩:=T;have t:Tw v5 v2.heap.size ra n rc:=Tw.of_own h2 (by omega) h
 refine⟨ra,n,rc,k,rfl,hn,(t.kept (by simp) (fun b hb _=>?_)).low b0.size,(((b0.trans (h3.mono b0.size)).setCell (p:=⟨w.heap.size+1,0,none⟩) (Nat.le_succ _) _).setCell (p:=⟨w.heap.size+1,1,none⟩) (Nat.le_succ _) _)⟩
 exact(Below.heap_setCell _ _ _ _ (by simp only;omega)).trans (Below.heap_setCell _ _ _ _ (by simp only;omega))

theorem LW {w v:World}(b0:Below w.heap.size w v)(hlt:w.heap.size+1<v.heap.size)(x y:Value):
 PrP w (((v.setCell ⟨w.heap.size+1,0,none⟩ x).setCell ⟨w.heap.size+1,1,none⟩ y).alloc (.cells #[.int .u8 78,.int .u8 97,.int .u8 78] 5 (3,4))) (.returned (.agg #[.slice (some ⟨v.heap.size,0,none⟩) 3 3,.int .i64 0])):=by
 have b1:=(b0.setCell (p:=⟨w.heap.size+1,0,none⟩) (Nat.le_succ _) x).setCell (p:=⟨w.heap.size+1,1,none⟩) (Nat.le_succ _) y;have hs:((v.setCell ⟨w.heap.size+1,0,none⟩ x).setCell ⟨w.heap.size+1,1,none⟩ y).heap.size=v.heap.size:=by simp
 refine⟨some ⟨v.heap.size,0,none⟩,3,3,0,rfl,by omega,?_,b1.alloc b1.size _⟩;rw[<-hs];exact(Tw.of_const _ [78,97,78] 3 rfl (by omega) (by simp) _ rfl 4).low (by rw[hs];exact b0.size)

end Go.Proofs.YtfdgkleoaehjaaaGreatDoor
namespace Go.Proofs.YtfdgkleoaehjaaaGreatDoor.M
set_option linter.unusedVariables false
set_option maxRecDepth 100000

def tl (v:Nat):List Nat:=if h:v=0 then[]else(48+v%10)::tl (v/10)

termination_by v

decreasing_by omega

theorem nK:tl 0=[]:=by rw[tl];simp

theorem nB {v:Nat}(h:v≠0):tl v=(48+v%10)::tl (v/10):=by rw[tl];simp[h]

def txt (v:Nat):List Nat:=if v=0 then[48]else(tl v).reverse

def pd (v n:Nat):List Nat:=(List.range n).map fun i=>48+v/10^i%10

theorem OS (v:Nat):Dig (tl v):=by
 induction v using Nat.strongRecOn with
 |ind v ih=>
  by_cases h:v=0
  . subst h;rw[nK];intro c hc;simp at hc
  . rw[nB h];intro c hc;rcases List.mem_cons.1 hc with rfl|hc
    . omega
    . exact ih (v/10) (by omega) c hc

theorem C8 (v:Nat):Dig (txt v):=by
 unfold txt
 by_cases h:v=0
 . rw[if_pos h];intro c hc;simp at hc;omega
 . rw[if_neg h];intro c hc;exact OS v c (List.mem_reverse.1 hc)

theorem AQ:∀(n v:Nat),v<10^n->(tl v).length<=n
 |0,v,h=>by
  have:v=0:=by simpa using h
  subst this;rw[nK];simp
 |n+1,v,h=>by
  by_cases h0:v=0
  . subst h0;rw[nK];simp
  . rw[nB h0,List.length_cons];have:=AQ n (v/10) (by rw[Nat.pow_succ]at h;omega);omega

theorem lY (n v:Nat)(h:v<10^(n+1)):(txt v).length<=n+1:=by
 unfold txt
 by_cases h0:v=0
 . rw[if_pos h0];simp
 . rw[if_neg h0,List.length_reverse];exact AQ _ _ h

theorem qT (v:Nat):0<(txt v).length:=by
 unfold txt
 by_cases h:v=0
 . rw[if_pos h];simp
 . rw[if_neg h,nB h];simp

theorem JW (xs:List Nat)(k:Nat)(h:k<xs.length):xs.reverse.take (k+1)=xs.reverse.take k++[xs.getD (xs.length-1-k) 0]:=by
 rw[mJ _ _ (by simpa using h)]
 congr 2
 rw[List.getD_eq_getElem?_getD,List.getD_eq_getElem?_getD,List.getElem?_reverse h]

end Go.Proofs.YtfdgkleoaehjaaaGreatDoor.M
namespace Go.Proofs.YtfdgkleoaehjaaaGreatDoor
set_option linter.unusedVariables false
set_option maxRecDepth 100000
namespace M

def gQ (z:Int):List Nat:=(if z<0 then[45]else[])++txt z.natAbs

def pt (ds:List Nat)(p:Int):List Nat:=
 if p< -5\/21<p then ds.take 1++((if 1<ds.length then 46::ds.drop 1 else[])++(101::gQ (p-1)))
 else if p<=0 then 48::46::(List.replicate (-p).toNat 48++ds)
 else if(ds.length:Int)<=p then ds++List.replicate (p-ds.length).toNat 48
 else ds.take p.toNat++(46::ds.drop p.toNat)

def sgl (ng:Bool):List Nat:=if ng then[45]else[]

theorem M6 (ng:Bool):∀x∈sgl ng,x<256:=by cases ng<;>simp[sgl]

theorem oJ (v:Nat):∀x∈txt v,x<256:=fun x hx=>by
 have:=C8 v x hx;omega

theorem jX (z:Int):∀x∈gQ z,x<256:=by
 intro x hx;unfold gQ at hx;rcases List.mem_append.1 hx with h|h
 . split at h
   . simp at h;omega
   . simp at h
 . exact oJ _ x h

theorem JD (z:Int)(h:z.natAbs<10000):(gQ z).length<=5:=by
 unfold gQ;rw[List.length_append];have:=lY 3 z.natAbs (by omega)
 split<;>simp<;>omega

theorem oT (z:Int):0<(gQ z).length:=by
 unfold gQ;rw[List.length_append];have:=qT z.natAbs;omega

theorem OZ (ds:List Nat)(p:Int)(h:∀x∈ds,x<256):∀x∈pt ds p,x<256:=by
 intro x hx;unfold pt at hx;split at hx
 . rcases List.mem_append.1 hx with g|g
   . exact h x (List.mem_of_mem_take g)
   . rcases List.mem_append.1 g with g|g
     . split at g
       . rcases List.mem_cons.1 g with g|g
         . omega
         . exact h x (List.mem_of_mem_drop g)
       . simp at g
     . rcases List.mem_cons.1 g with g|g
       . omega
       . exact jX _ x g
 . split at hx
   . rcases List.mem_cons.1 hx with g|g
     . omega
     . rcases List.mem_cons.1 g with g|g
       . omega
       . rcases List.mem_append.1 g with g|g
         . have:=(List.mem_replicate.1 g).2;omega
         . exact h x g
   . split at hx
     . rcases List.mem_append.1 hx with g|g
       . exact h x g
       . have:=(List.mem_replicate.1 g).2;omega
     . rcases List.mem_append.1 hx with g|g
       . exact h x (List.mem_of_mem_take g)
       . rcases List.mem_cons.1 g with g|g
         . omega
         . exact h x (List.mem_of_mem_drop g)

end M
end Go.Proofs.YtfdgkleoaehjaaaGreatDoor
