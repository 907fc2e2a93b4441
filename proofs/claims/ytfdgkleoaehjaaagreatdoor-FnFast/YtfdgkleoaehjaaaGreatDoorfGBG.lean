import Derived.Shelf.RegionOpenPlain
import Derived.Test.YtfdgkleoaehjaaaGreatDoorfGBF
set_option maxHeartbeats 2000000
set_option maxRecDepth 10000
namespace Go.Proofs.YtfdgkleoaehjaaaGreatDoor
open Go.RowKit
set_option linter.unusedVariables false
set_option maxRecDepth 100000

open Go.Shelf

variable {F:Fence}{n:Nat}{P:Program}

theorem tQ {a b:World}{base e n:Nat}{v:Value}{xs:List Value}{row:Option Nat}(h:a.ownsRow base e 1 v n xs)(hg:a.grownBy b row)(hr:∀r,row=some r->∃o:Obj,a.heap[r]? =some o/\o.isCells=false):b.ownsRow base e 1 v n xs:=by
 refine⟨h.1,?_⟩;rcases h.2 with h'|⟨g,cap',cur,e1,hb,hh,r⟩
 . exact .inl h'
 . refine .inr ⟨g,cap',cur,e1,hb,?_,r⟩;refine(hg.block g (Array.getElem?_eq_some_iff.1 hh).1 ?_).trans hh;intro e2;obtain⟨o,ho,hc⟩:=hr g e2.symm;rw[hh]at ho;injection ho with ho;rw[<-ho]at hc
   simp[Obj.isCells]at hc

attribute [local go_sem] Oper.semAt_some

def gq (v k:Nat):Nat:=v/10^(19*k)

def gd (v k:Nat):Nat:=gq v k%10000000000000000000

theorem NM:∀{xs ys:List Nat},U xs=U ys->xs=ys
 |[],[],_=>rfl
 |[],_::_,h=>by simp[U]at h
 |_::_,[],h=>by simp[U]at h
 |x::xs,y::ys,h=>by
  have h':(Value.int .u64 (x:Int))::U xs=(Value.int .u64 (y:Int))::U ys:=h;injection h' with h1 h2;injection h1 with _ h3;rw[NM h2,show x=y by omega]

theorem Blk.inj {w:World}{g:Nat}{xs ys:List Nat}(h:Blk w g xs)(k:Blk w g ys):xs=ys:=by
 have:=h.symm.trans k;simp only[Option.some.injEq,Obj.cells.injEq,and_true]at this;exact NM (by simpa using this)

def Rvk (xs ys:List Nat)(n k:Nat):Prop:=ys.length=n/\∀p,p<n->ys.getD p 0=if p<k\/n<p+1+k then xs.getD (n-1-p) 0 else xs.getD p 0

theorem Rvk.done {xs ys:List Nat}{n k:Nat}(h:Rvk xs ys n k)(hl:xs.length=n)(hk:n<=2*k+1):ys=xs.reverse:=by
 refine List.ext_getElem (by simp[h.1,hl]) fun p h1 h2=>?_
 have hp:p<n:=by rw[<-h.1];exact h1
 have h3:=h.2 p hp;have e1:ys.getD p 0=ys[p]:=by simp[List.getD_eq_getElem?_getD,h1]
 have e2:(xs.reverse)[p]=xs.getD (n-1-p) 0:=by
  rw[List.getElem_reverse,List.getD_eq_getElem?_getD,List.getElem?_eq_getElem (by omega),Option.getD_some]
  congr 1
  omega
 rw[e2,<-e1,h3]
 by_cases hc:p<k\/n<p+1+k
 . rw[if_pos hc]
 . rw[if_neg hc,show n-1-p=p by omega]

theorem Rvk.step {xs ys:List Nat}{n k j:Nat}(h:Rvk xs ys n k)(hl:xs.length=n)(hk:k<j)(hj:j+1+k=n):Rvk xs ((ys.set k (ys.getD j 0)).set j (ys.getD k 0)) n (k+1):=by
 refine⟨by simp[h.1],fun p hp=>?_⟩
 have hyl:=h.1;have h1:=h.2 k (by omega);have h2:=h.2 j (by omega);rw[if_neg (by omega)]at h1 h2
 by_cases e1:p=j
 . subst e1;rw[M.bQ _ _ _ (by simp;omega),h1,if_pos (by omega),show n-1-p=k by omega]
 . rw[M.bO _ _ _ _ (fun e=>e1 e.symm)]
   by_cases e2:p=k
   . subst e2;rw[M.bQ _ _ _ (by omega),h2,if_pos (by omega),show n-1-p=j by omega]
   . rw[M.bO _ _ _ _ (fun e=>e2 e.symm),h.2 p hp]
     by_cases hc:p<k\/n<p+1+k
     . rw[if_pos hc,if_pos (by omega)]
     . rw[if_neg hc,if_neg (by omega)]

attribute [local go_sem] Oper.semAt_some

def DgI (w:World)(v N:Nat)(r k:Nat)(W:World):Prop:=
 (∃ta tc,Boxed W w.heap.size 22 (.slice ta (19*k) tc)/\W.ownsRow w.heap.size 5 1 (.slice ta (19*k) tc) (19*k) (UB (M.pd v (19*k)))/\(Value.slice ta (19*k) tc).ownBlock≠some r/\k<=2*N+1)/\Below w.heap.size w W

theorem DgI.own (w:World)(v N r B:Nat)(hB:w.heap.size<=B):OwnFrom B (DgI w v N r):=
 OwnFrom.and (Own.from (fun s a b row hs hg hr=>by
  obtain⟨ta,tc,h1,h2,h3⟩:=hs
  exact⟨ta,tc,boxed_own _ _ (fun _=>_) s a b row h1 hg hr,tQ h2 hg hr,h3⟩) _) (ownFrom_below (Nat.le_refl _) hB)

theorem DN {x y:Nat}:(aY (x:Int) (y:Int)<0)=(x<y):=by
 unfold aY
 by_cases h:(x:Int)<y
 . rw[if_pos h];simp;omega
 . rw[if_neg h]
   by_cases h2:(y:Int)<x
   . rw[if_pos h2];simp;omega
   . rw[if_neg h2];simp;omega

theorem cC (a b K J:Nat)(h1:(D a).length<=K)(h2:(D b).length<=J):(D (a*b)).length<=K+J:=by
 refine M.len_of_lt (B:=4294967296) (by omega) _ _ ?_;rw[Nat.pow_add];exact Nat.mul_lt_mul'' (mZ a K h1) (mZ b J h2)

theorem GM (m den:Nat)(y:Int)(a b:Option Addr)(c d:Nat)(w:World)(h1:-9000<=y)(h2:y<=9000)(lm:(D m).length<=20000)(ld:(D den).length<=20000)(ra:Rd w a (D m))(rb:Rd w b (D den)):
 Calls Tryz.prog 140 #[.slice a (D m).length c,.slice b (D den).length d,.int .i64 y] w fun e w'=>e=.returned (.bool (decide (M.un m y<M.ud den y)))/\Below w.heap.size w w':=by
 unfold M.un M.ud
 by_cases hy:0<=y
 . obtain⟨k,rfl⟩:=Int.eq_ofNat_of_zero_le hy;have e0:(-(k:Int)).toNat=0:=by omega
   have e1:((k:Int)).toNat=k:=by omega
   rw[e0,e1,Nat.pow_zero,Nat.mul_one];have lt:(D (10^k)).length<=2401:=iW 10 k (gN k (by omega));have lp:=cC den (10^k) 20000 2401 ld lt;obtain⟨P,hP⟩:∃P,P=den*10^k:=⟨_,rfl⟩
   have kM:=fun(v:World)(x:Option Addr)(cx:Nat) hr hr2=>cI b x _ _ d cx den (10^k) v rfl rfl (by omega) (by omega) hr hr2
   rw[<-hP]at kM lp|-;clear hP e0 e1;have kc:=DN (x:=m) (y:=P);go_enter Tryz.func140,Tryz.ntmps140;go_wp2_with fail;refine(dO k _ (by omega)).mono ?_;rintro e v1 ⟨ta,tc,rfl,ot,hb⟩;go_wp2_with fail;refine(kM _ _ _ (rb.below hb) (Rd.own ot)).mono ?_;rintro e v2 ⟨pa,pc,rfl,po,hb2⟩;have b0:=hb.trans (hb2.mono hb.size);clear ot hb hb2 kM;go_wp2_with fail;refine(dM a pa _ _ c pc m P _ rfl rfl (by omega) (by omega) (ra.below b0) (Rd.own po)).mono ?_;rintro e v3 ⟨rfl,rfl⟩;have HB:=hid b0;clear b0;go_wp2_with fail;go_ret;exact⟨by simp,HB.out⟩
 . obtain⟨k,hk⟩:=Int.eq_ofNat_of_zero_le (show 0<= -y by omega);have ey:y= -(k:Int):=by omega
   subst ey;have hy':¬(0:Int)<= -(k:Int):=hy;have e0:(-(-(k:Int))).toNat=k:=by omega
   have e1:(-(k:Int)).toNat=0:=by omega
   rw[e0,e1,Nat.pow_zero,Nat.mul_one];have lt:(D (10^k)).length<=2401:=iW 10 k (gN k (by omega));have lp:=cC m (10^k) 20000 2401 lm lt;obtain⟨P,hP⟩:∃P,P=m*10^k:=⟨_,rfl⟩
   have kM:=fun(v:World)(x:Option Addr)(cx:Nat) hr hr2=>cI a x _ _ c cx m (10^k) v rfl rfl (by omega) (by omega) hr hr2
   rw[<-hP]at kM lp|-;clear hP e0 e1 hk;have kc:=DN (x:=P) (y:=den);have e2:-(-(k:Int))=(k:Int):=by omega
   go_enter Tryz.func140,Tryz.ntmps140;go_wp2_with fail;refine(dO k _ (by omega)).mono ?_;rintro e v1 ⟨ta,tc,rfl,ot,hb⟩;go_wp2_with fail;refine(kM _ _ _ (ra.below hb) (Rd.own ot)).mono ?_;rintro e v2 ⟨pa,pc,rfl,po,hb2⟩;have b0:=hb.trans (hb2.mono hb.size);clear ot hb hb2 kM;go_wp2_with fail;refine(dM pa b _ _ pc d P den _ rfl rfl (by omega) (by omega) (Rd.own po) (rb.below b0)).mono ?_;rintro e v3 ⟨rfl,rfl⟩;have HB:=hid b0;clear b0;go_wp2_with fail;go_ret;exact⟨by simp,HB.out⟩

theorem jR (N u x den:Nat)(up:Bool)(a b c d:Option Addr)(ca cb cc cd:Nat)(w:World)(lN:(D N).length<=20000)(lu:(D u).length<=20000)(lx:(D x).length<=20000)(ld:(D den).length<=20000)
 (ra:Rd w a (D N))(rb:Rd w b (D u))(rc:Rd w c (D x))(rd:Rd w d (D den)):
 Calls Tryz.prog 142 #[.slice a (D N).length ca,.slice b (D u).length cb,.bool up,.slice c (D x).length cc,.slice d (D den).length cd] w fun e w'=>e=.returned (.int .i64 (aY ((N*(if up then u else den):Nat):Int) (x:Int)))/\Below w.heap.size w w':=by
 cases up
 . simp only[Bool.false_eq_true,if_false];have lp:=cC N den 20000 20000 lN ld;obtain⟨P,hP⟩:∃P,P=N*den:=⟨_,rfl⟩
   have kM:=fun(v:World) hr hr2=>cI a d _ _ ca cd N den v rfl rfl (by omega) (by omega) hr hr2
   rw[<-hP]at kM lp|-;clear hP;go_enter Tryz.func142,Tryz.ntmps142;go_wp2_with fail;refine(kM _ ra rd).mono ?_;rintro e v1 ⟨pa,pc,rfl,po,hb⟩;go_wp2_with fail;refine(dM pa c _ _ pc cc P x _ rfl rfl (by omega) (by omega) (Rd.own po) (rc.below hb)).mono ?_;rintro e v2 ⟨rfl,rfl⟩;have HB:=hid hb;clear hb;go_wp2_with fail;go_ret;exact⟨rfl,HB.out⟩
 . simp only[if_true];have lp:=cC N u 20000 20000 lN lu;obtain⟨P,hP⟩:∃P,P=N*u:=⟨_,rfl⟩
   have kM:=fun(v:World) hr hr2=>cI a b _ _ ca cb N u v rfl rfl (by omega) (by omega) hr hr2
   rw[<-hP]at kM lp|-;clear hP;go_enter Tryz.func142,Tryz.ntmps142;go_wp2_with fail;refine(kM _ ra rb).mono ?_;rintro e v1 ⟨pa,pc,rfl,po,hb⟩;go_wp2_with fail;refine(dM pa c _ _ pc cc P x _ rfl rfl (by omega) (by omega) (Rd.own po) (rc.below hb)).mono ?_;rintro e v2 ⟨rfl,rfl⟩;have HB:=hid hb;clear hb;go_wp2_with fail;go_ret;exact⟨rfl,HB.out⟩

def wIn (P lo hi:Nat)(cl:Bool):Bool:=(if cl then decide (lo<=P)else decide (lo<P)) && (if cl then decide (P<=hi)else decide (P<hi))

theorem QO (x y:Nat):aY (x:Int) (y:Int)=if x<y then-1 else if x=y then 0 else 1:=by
 unfold aY
 by_cases x1:x<y
 . rw[if_pos (by omega),if_pos x1]
 . rw[if_neg (by omega),if_neg x1]
   by_cases x2:x=y
   . rw[if_neg (by omega),if_pos x2]
   . rw[if_pos (by omega),if_neg x2]

theorem oU (N u lo hi den:Nat)(up cl:Bool)(a b c d e:Option Addr)(ca cb cc cd ce:Nat)(w:World)(lN:(D N).length<=20000)(lu:(D u).length<=20000)(ll:(D lo).length<=20000)(lh:(D hi).length<=20000)(ld:(D den).length<=20000)
 (ra:Rd w a (D N))(rb:Rd w b (D u))(rc:Rd w c (D lo))(rd:Rd w d (D hi))(re:Rd w e (D den)):
 Calls Tryz.prog 141 #[.slice a (D N).length ca,.slice b (D u).length cb,.bool up,.slice c (D lo).length cc,.slice d (D hi).length cd,.slice e (D den).length ce,.bool cl] w fun r w'=>r=.returned (.bool (wIn (N*(if up then u else den)) lo hi cl))/\Below w.heap.size w w':=by
 have k1:=fun(v:World) h1 h2 h3 h4=>jR N u lo den up a b c e ca cb cc ce v lN lu ll ld h1 h2 h3 h4
 have k2:=fun(v:World) h1 h2 h3 h4=>jR N u hi den up a b d e ca cb cd ce v lN lu lh ld h1 h2 h3 h4
 obtain⟨P,hP⟩:∃P,P=N*(if up then u else den):=⟨_,rfl⟩;rw[<-hP]at k1 k2|-;clear hP;obtain⟨R,hR⟩:∃R,R=wIn P lo hi cl:=⟨_,rfl⟩;rw[<-hR];have HR:=hid hR;clear hR
 have tri:∀y:Nat,∃z:Int,aY (P:Int) (y:Int)=z/\((z= -1/\P<y)\/(z=0/\P=y)\/(z=1/\y<P)):=fun y=>by
  refine⟨_,rfl,?_⟩;rw[QO];rcases Nat.lt_trichotomy P y with x|x|x
  . rw[if_pos x];exact .inl ⟨rfl,x⟩
  . rw[if_neg (by omega),if_pos x];exact .inr (.inl ⟨rfl,x⟩)
  . rw[if_neg (by omega),if_neg (by omega)];exact .inr (.inr ⟨rfl,x⟩)
 obtain⟨z1,e1,y1⟩:=tri lo;obtain⟨z2,e2,y2⟩:=tri hi;rw[e1]at k1;rw[e2]at k2;clear e1 e2 tri;rcases y1 with⟨rfl,x1⟩|⟨rfl,x1⟩|⟨rfl,x1⟩
 all_goals rcases y2 with⟨rfl,x2⟩|⟨rfl,x2⟩|⟨rfl,x2⟩
 all_goals cases cl
 all_goals(
  go_enter Tryz.func141,Tryz.ntmps141;go_wp2_with fail;refine(k1 _ ra rb rc re).mono ?_;rintro r v1 ⟨rfl,hb⟩;go_wp2_with fail;refine(k2 _ (ra.below hb) (rb.below hb) (rd.below hb) (re.below hb)).mono ?_;rintro r v2 ⟨rfl,hb2⟩;have HB:=hid (hb.trans (hb2.mono hb.size));clear hb hb2 k1 k2;go_wp2_with fail;go_ret;refine⟨?_,HB.out⟩;rw[HR.out];unfold wIn
  simp
  try omega)

theorem mM (a b K:Nat)(h1:(D a).length<=K)(h2:(D b).length<=K):(D (a+b)).length<=K+1:=by
 refine M.len_of_lt (B:=4294967296) (by omega) _ _ ?_;have x1:=mZ a K h1;have x2:=mZ b K h2;rw[Nat.pow_succ];omega

theorem oP (m:Nat):10^m<2^(4*m+1):=by
 have:=jP 10 m;rw[vP]at this;exact Nat.lt_of_le_of_lt this (Nat.pow_lt_pow_right (by omega) (by omega))

theorem M.uB_le (m:Int)(h1:-20000<=m)(h2:m<=20000):-8000<=(m*30103).tdiv 100000/\(m*30103).tdiv 100000<=8000:=by
 obtain⟨a,b⟩:=OC m h1 h2;unfold M.uB at a b;omega

theorem JE {ops:Array Oper}{o:Oper}{a:Act}{K:Act->World->Prop}{Q:Exit->Act->World->Prop}{E:Prop}(hgd:o.guard=none)(s x:Operand)
 (ho:o.op=.call { callee:=.builtin .append,args:=#[s,x],argTypes:=#[22,22] })(w:World)(hs:a.eval s=.slice none 0 0)(ad:Addr)(m c:Nat)(ys:List Nat)(hx:a.eval x=.slice (some ad) m c)(hl:ys.length=m)(hm:0<m)(hm2:m<=1000000)(hr:RdB w (some ad) ys)
 (h:∀g cap w',w'.ownsRow w.heap.size 5 1 (.slice (some ⟨g,0,none⟩) m cap) m (UB ys)->Below w.heap.size w w'->K (a.put o.dst (.slice (some ⟨g,0,none⟩) m cap)) w'):
 if Region.wanted o (yielded ops a.tmps)=true then Oper.wp Tryz.prog o a w K Q else E:=by
 obtain⟨i0,hi,hz0,hz1,hz2⟩:=info_parts Tryz.infoY;refine step_append_lies w hgd s x 22 ho w.heap.size 5 i0 (.int .u8 0) 1 1 Tryz.underlying22 hi hz0 hz1 hz2 rfl (by decide) (.slice none 0 0) 0 [] hs (World.ownsRow_nil _ _ _ _) ad m c (UB ys) hx (by rw[aP,hl,Nat.mul_one]) ?_ (iB _) hm (by unfold maxLen;omega) (by omega) (Nat.le_refl _) w.heap.size rfl ?_
 . intro j u hj
   have hjl:j<ys.length:=by
    rcases Nat.lt_or_ge j ys.length with k|k
    . exact k
    . rw[List.getElem?_eq_none (by rw[aP];exact k)]at hj;cases hj
   obtain⟨b,off,e2,hc⟩:=hr.2 (by omega);cases e2;rw[eJ ys j hjl]at hj;cases hj;rw[Addr.add_lit];exact hc j hjl
 . intro g cap w' h1 h2 _ _;rw[Nat.zero_add,List.nil_append]at h1;rw[Nat.zero_add]
   exact h g cap w' h1 ((Below.refl _ _).grown h2 (Nat.le_refl _) (fun j e=>by cases e))

theorem PN {w:World}{B n c:Nat}{a:Option Addr}{bs:List Nat}(h:w.ownsRow B 5 1 (.slice a n c) n (UB bs))(hl:bs.length=n)(hb:∀x∈bs,x<256):OwnV w B (.slice a bs.length c) bs:=by
 subst hl;exact OwnV.of_own h hb

theorem Q8 {v:World}{g b o:Nat}{x y z u:Value}(h:b≠g):((((v.setCell ⟨g,0,none⟩ x).setCell ⟨g,1,none⟩ y).setCell ⟨g,2,none⟩ z).setCell ⟨g,3,none⟩ u).cell? ⟨b,o,none⟩=v.cell? ⟨b,o,none⟩:=
 World.cell?_of_block (w:=v) (a:=⟨b,o,none⟩) ((((Below.heap_setCell _ _ _ _ h).trans (Below.heap_setCell _ _ _ _ h)).trans (Below.heap_setCell _ _ _ _ h)).trans (Below.heap_setCell _ _ _ _ h))

theorem OwnV.far4y {w:World}{lo g:Nat}{v:Value}{xs:List Nat}(h:OwnV w lo v xs)(hg:g<lo)(a b c d:Value):OwnV ((((w.setCell ⟨g,0,none⟩ a).setCell ⟨g,1,none⟩ b).setCell ⟨g,2,none⟩ c).setCell ⟨g,3,none⟩ d) lo v xs:=
 (((h.far ⟨g,0,none⟩ hg a).far ⟨g,1,none⟩ hg b).far ⟨g,2,none⟩ hg c).far ⟨g,3,none⟩ hg d

theorem CU {w v:World}(h:Below w.heap.size w v){g:Nat}(hg:w.heap.size<=g)(a b c d:Value):Below w.heap.size w ((((v.setCell ⟨g,0,none⟩ a).setCell ⟨g,1,none⟩ b).setCell ⟨g,2,none⟩ c).setCell ⟨g,3,none⟩ d):=
 (((h.setCell (p:=⟨g,0,none⟩) hg _).setCell (p:=⟨g,1,none⟩) hg _).setCell (p:=⟨g,2,none⟩) hg _).setCell (p:=⟨g,3,none⟩) hg _

theorem RdB.pre {w:World}{a:Option Addr}{xs:List Nat}(h:RdB w a xs)(n:Nat):RdB w a (xs.take n):=by
 refine⟨fun x hx=>h.1 x (List.mem_of_mem_take hx),fun hp=>?_⟩
 rw[List.length_take]at hp;obtain⟨b,off,e,hk⟩:=h.2 (by omega)
 refine⟨b,off,e,fun i hi=>?_⟩
 rw[List.length_take]at hi;rw[hk i (by omega),List.getD_eq_getElem?_getD,List.getD_eq_getElem?_getD,List.getElem?_take_of_lt (by omega)]

end Go.Proofs.YtfdgkleoaehjaaaGreatDoor
