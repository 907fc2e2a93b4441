import Derived.Test.YtfdgkleoaehjaaaGreatDoorfGAE
import Derived.Test.YtfdgkleoaehjaaaGreatDoorfRrM
set_option maxHeartbeats 8000000
set_option maxRecDepth 100000
namespace Go.Proofs.YtfdgkleoaehjaaaGreatDoor.M
set_option linter.unusedVariables false
set_option maxRecDepth 100000

theorem ID (N De:Nat)(h1:aB N<=83200)(h2:aB De<=83200):-83201<=rE N De/\rE N De<=83200:=by
 unfold rE;split<;>omega

theorem Fm.Ok.rQ_le {F:Fm}(h:F.Ok)(N De:Nat)(h1:aB N<=83200)(h2:aB De<=83200):-17000<=F.rQ N De/\F.rQ N De<=83200/\F.qmin<=F.rQ N De/\ -17000<=F.qmin/\F.qmin<0:=by
 have a:=ID N De h1 h2;have b:=h.top2;have p1:=h.p1;have p2:=h.p2;have hq:F.rQ N De=max (rE N De-F.p+1) F.qmin:=rfl;have hm:F.qmin=2-(F.emax:Int)-(F.p:Int):=rfl;omega

theorem Fm.Ok.rN_le {F:Fm}(h:F.Ok)(N De:Nat)(hN:0<N)(hd:0<De)(h1:aB N<=83200)(h2:aB De<=83200):(F.rN N De=N\/F.rN N De<De*2^F.p)/\(F.rM N De=De\/F.rM N De<=N):=by
 obtain⟨q1,q2,q3,q4,q5⟩:=h.rQ_le N De h1 h2;obtain⟨e1,e2⟩:=vI N De hN hd;have p1:=h.p1;have hq:F.rQ N De=max (rE N De-F.p+1) F.qmin:=rfl;have eN:F.rN N De=N*2^(-(F.rQ N De)).toNat:=rfl;have eM:F.rM N De=De*2^(F.rQ N De).toNat:=rfl;rcases(by omega:0<=F.rQ N De\/F.rQ N De<0)with hc|hc
 . refine⟨.inl ?_,.inr ?_⟩
   . rw[eN,show(-(F.rQ N De)).toNat=0 by omega,Nat.pow_zero,Nat.mul_one]
   . have hE:F.rQ N De=rE N De-F.p+1:=by omega
     have hz:¬lt2 N De (F.rQ N De):=fun hh=>e1 (iY hd hh (by omega))
     unfold lt2 at hz;rw[show(-(F.rQ N De)).toNat=0 by omega,Nat.pow_zero,Nat.mul_one]at hz;rw[eM];omega
 . refine⟨.inr ?_,.inl ?_⟩
   . have k:=iY (e':=F.rQ N De+F.p) hd e2 (by omega);rw[iG N De _ (-(F.rQ N De)).toNat (by omega),show(((-(F.rQ N De)).toNat:Int)+(F.rQ N De+F.p)).toNat=F.p by omega]at k;rw[eN];exact k
   . rw[eM,show(F.rQ N De).toNat=0 by omega,Nat.pow_zero,Nat.mul_one]

theorem Fm.Ok.rCarry {F:Fm}(h:F.Ok)(N De:Nat)(hN:0<N)(hd:0<De):F.rSig N De=(if(F.p:Int)<(aB (F.rS N De):Int)then F.rS N De/2 else F.rS N De)/\F.rExp N De=(if(F.p:Int)<(aB (F.rS N De):Int)then F.rQ N De+1 else F.rQ N De):=by
 have h1:=h.rS_le N De hN hd;have h2:=h.two_lead;have h3:=h.leadPos
 have key:(F.p:Int)<(aB (F.rS N De):Int)↔F.rS N De=2^F.p:=by
  constructor
  . intro hh;have h5:F.rS N De≠0:=by intro e;rw[e,fJ]at hh;omega
    have h6:=eF (F.rS N De) (by omega);have h7:2^F.p<=2^(aB (F.rS N De)-1):=Nat.pow_le_pow_right (by omega) (by omega);omega
  . intro hh;have h6:=dD (F.rS N De);rcases Nat.lt_or_ge F.p (aB (F.rS N De))with h7|h7
    . omega
    . have:2^aB (F.rS N De)<=2^F.p:=Nat.pow_le_pow_right (by omega) h7;omega
 unfold Fm.rSig Fm.rExp
 by_cases hc:F.rS N De=2^F.p
 . rw[if_pos hc,if_pos hc,if_pos (key.2 hc),if_pos (key.2 hc)];refine⟨?_,rfl⟩;rw[hc,h2];omega
 . rw[if_neg hc,if_neg hc,if_neg (fun hh=>hc (key.1 hh)),if_neg (fun hh=>hc (key.1 hh))]
   exact⟨rfl,rfl⟩

theorem C9 (n m:Nat):n/m+rUp n m=if 0<aY (((n%m*2:Nat)):Int) (m:Int)\/(aY (((n%m*2:Nat)):Int) (m:Int)=0/\n/m%2=1)then n/m+1 else n/m:=by
 unfold rUp
 have e:(m<2*(n%m)\/(2*(n%m)=m/\n/m%2=1))↔(0<aY (((n%m*2:Nat)):Int) (m:Int)\/(aY (((n%m*2:Nat)):Int) (m:Int)=0/\n/m%2=1)):=by
  have h1:0<aY (((n%m*2:Nat)):Int) (m:Int)↔m<2*(n%m):=by
   unfold aY;split
   . omega
   . split<;>omega
  have h2:aY (((n%m*2:Nat)):Int) (m:Int)=0↔2*(n%m)=m:=by
   unfold aY;split
   . omega
   . split<;>omega
  rw[h1,h2]
 by_cases hh:m<2*(n%m)\/(2*(n%m)=m/\n/m%2=1)
 . rw[if_pos hh,if_pos (e.1 hh)]
 . rw[if_neg hh,if_neg (fun k=>hh (e.2 k))];omega

end Go.Proofs.YtfdgkleoaehjaaaGreatDoor.M
namespace Go.Proofs.YtfdgkleoaehjaaaGreatDoor
open Go.RowKit
set_option linter.unusedVariables false
set_option maxRecDepth 100000

theorem aL {w1 W v:World}(h:Below w1.heap.size w1 W)(k:Below W.heap.size W v):Below w1.heap.size w1 v:=h.trans (k.mono h.size)

theorem iQ (w:World)(t:TypeId)(x y:Value):(w.alloc (.cells #[x,y] t)).cell? ⟨w.heap.size,0,none⟩=some x/\(w.alloc (.cells #[x,y] t)).cell? ⟨w.heap.size,1,none⟩=some y/\(w.alloc (.cells #[x,y] t)).frozen? ⟨w.heap.size,0,none⟩=false/\(w.alloc (.cells #[x,y] t)).frozen? ⟨w.heap.size,1,none⟩=false:=by
 simp[go_sem]

theorem JO (dT sT t:TypeId)(hu:Tryz.prog.underlying dT=some (.slice 25))(w1:World)(g dn dc:Nat)(zs:List Value)(hg:w1.heap[g]? =some (.cells zs.toArray t (0,0)))
 (ao:Option Addr)(ys:List Nat)(sn sc:Nat)(hy:ys.length=sn)(hr:Rd w1 ao ys)(h1:sn<=dn)(h2:sn<=zs.length):
 ∃w2,(Builtin.copy_ #[dT,sT] 3 #[.slice (some ⟨g,0,none⟩) dn dc,.slice ao sn sc]).run Tryz.prog w1=.ok (.int .i64 (sn:Int)) w2/\
  w2.heap[g]? =some (.cells (U ys++zs.drop sn).toArray t (0,0))/\w1.grownBy w2 (some g):=by
 have hs:(Tryz.prog.info? 25).map (·.size)=some 1:=by
  obtain⟨i0,hi,hz0,hz1,hz2⟩:=info_parts Tryz.infoU;rw[hi];simp[hz1]
 by_cases h0:sn=0
 . subst h0;have:ys=[]:=List.eq_nil_of_length_eq_zero hy;subst this;refine⟨w1,run_copy_none w1 dT sT 3 25 _ ao dn dc 0 sc hu hs (by simp),?_,World.grownBy.refl _ _⟩
   simpa[U]using hg
 . obtain⟨b,off,rfl,hc⟩:=hr (by omega);have hl:(U ys).length=sn:=by rw[dV,hy]
   have e:=run_copy_row (P:=Tryz.prog) w1 dT sT 3 25 g 0 dn dc ⟨b,off,none⟩ sn sc zs.toArray t (U ys) hu hs hg (by rw[hl];show sn=min sn dn;omega) (Rd.cellAdd (ao:=none) hc) (by simp[hl];omega) (i7 ys);rw[hl]at e;refine⟨_,e,?_,?_⟩
   . rw[setRow_heap w1 g _ _ _ _ hg];simp
   . exact⟨rfl,rfl,rfl,by simp,fun k _ hk=>setRow_other w1 g k _ (fun e=>hk (by simp[e]))⟩

theorem JM (a k:Nat):(L a).getD k 0=a/18446744073709551616^k%18446744073709551616:=M.dig_get (by omega) k a

theorem RP (a:Nat)(h:(L a).length<=2)(ha:a<2^128):U (L a)++(U [0,0]).drop (L a).length=U [M.loN a,M.hiN a]:=by
 have e2:L a++[0,0].drop (L a).length=[M.loN a,M.hiN a]:=by
  have h0:=JM a 0;have h1:=JM a 1;have hh:=M.mN ha;have hlo:M.loN a=a%18446744073709551616:=rfl;have hhi:M.hiN a=a/18446744073709551616:=rfl
  match hL:L a,h with
  |[],_=>
   rw[hL]at h0 h1
   simp at h0 h1|-
   exact⟨by omega,by omega⟩
  |[x],_=>
   rw[hL]at h0 h1
   simp at h0 h1|-
   exact⟨by omega,by omega⟩
  |[x,y],_=>
   rw[hL]at h0 h1
   simp at h0 h1|-
   exact⟨by omega,by omega⟩
 rw[<-e2,dH]
 simp[U]

theorem JJ {w:World}{g x y:Nat}{t:TypeId}(h:w.heap[g]? =some (.cells (U [x,y]).toArray t (0,0))):w.cell? ⟨g,0,none⟩=some (.int .u64 (x:Int))/\w.cell? ⟨g,1,none⟩=some (.int .u64 (y:Int)):=by
 simp[World.cell?,h,U]

theorem tJ (ao:Option Addr)(n c a:Nat)(w:World)(hl:(L a).length=n)(ha:a<2^128)(hr:Rd w ao (L a)):
 Calls Tryz.prog 137 #[.slice ao n c] w fun e w'=>e=.returned (.agg #[.int .u64 (M.hiN a:Int),.int .u64 (M.loN a:Int)])/\Below w.heap.size w w':=by
 have hn:n<=2:=by rw[<-hl];exact M.len_of_lt (by omega) a 2 (by omega)
 have b0:Below w.heap.size w ((w.alloc (.cells #[.int .u64 0,.int .u64 0] 27)).alloc (.cells #[.int .u64 0,.int .u64 0] 206)):=((Below.refl _ _).alloc (Nat.le_refl _) _).alloc (by simp) _
 have HG:((w.alloc (.cells #[.int .u64 0,.int .u64 0] 27)).alloc (.cells #[.int .u64 0,.int .u64 0] 206)).heap[w.heap.size+1]? =some (.cells (U [0,0]).toArray 206 (0,0)):=by
  have:=heap_alloc_new (w.alloc (.cells #[.int .u64 0,.int .u64 0] 27)) (.cells #[.int .u64 0,.int .u64 0] 206)
  simpa[U]using this
 obtain⟨w2,hcp,hg2,hgr2⟩:=JO 56 87 206 Tryz.underlying56 _ (w.heap.size+1) 2 2 (U [0,0]) HG ao (L a) n c hl (hr.below b0) hn (by simp[U];exact hn);rw[<-hl,RP a (by omega) ha]at hg2;obtain⟨q0,q1⟩:=JJ hg2;obtain⟨t0,t1,t2,t3⟩:=iQ w 27 (.int .u64 0) (.int .u64 0)
 have ba:Below (w.alloc (.cells #[.int .u64 0,.int .u64 0] 27)).heap.size (w.alloc (.cells #[.int .u64 0,.int .u64 0] 27)) w2:=((Below.refl _ _).alloc (Nat.le_refl _) _).grown hgr2 (by simp) (fun k hk=>by cases hk;simp)
 have bb:Below w.heap.size w w2:=((Below.refl w.heap.size w).alloc (Nat.le_refl _) _).trans (ba.mono (by simp));have r0:=(ba.cell (p:=⟨w.heap.size,0,none⟩) (by simp)).trans t0;have r1:=(ba.cell (p:=⟨w.heap.size,1,none⟩) (by simp)).trans t1;have z0:=(ba.frozen (p:=⟨w.heap.size,0,none⟩) (by simp)).trans t2;have z1:=(ba.frozen (p:=⟨w.heap.size,1,none⟩) (by simp)).trans t3;clear t0 t1 t2 t3 ba HG hgr2 hg2 hl;go_enter Tryz.func137,Tryz.ntmps137;go_wp2_with fail;exact bodyPost_ret (v:=.agg #[.int .u64 (M.hiN a:Int),.int .u64 (M.loN a:Int)]) (by simp[results,Tryz.results137,go_sem,r0,r1]) rfl ⟨rfl,(bb.setCell (p:=⟨w.heap.size,0,none⟩) (Nat.le_refl _) _).setCell (p:=⟨w.heap.size,1,none⟩) (Nat.le_refl _) _⟩

theorem LT (z:Int)(h0:0<=z)(h1:z<18446744073709551616):bits .and .u64 z 1=z%2:=by go_bits2

theorem JV (X:Nat)(w:World):
 Calls Tryz.prog 150 #[.agg #[.int .u64 (M.hiN X:Int),.int .u64 (M.loN X:Int)]] w fun e w'=>e=.returned (.bool (decide (X%2=0)))/\Below w.heap.size w w':=by
 go_enter Tryz.func150,Tryz.ntmps150
 have hb:(bits BinOp.and IntKind.u64 (M.loN X:Int) 1==0)=decide (X%2=0):=by
  have e:bits BinOp.and IntKind.u64 (M.loN X:Int) 1=((M.loN X%2:Nat):Int):=by
   have:=M.kZ X;rw[LT _ (by omega) (by omega)];omega
  rw[e];have:M.loN X%2=X%2:=by unfold M.loN;omega
  rw[this]
  by_cases h:X%2=0
  . simp[h]
  . have h2:X%2=1:=by omega
    simp[h2]
 go_wp2_with fail;go_ret;exact⟨by rw[<-hb];rfl,(Below.refl _ _).alloc (Nat.le_refl _) _⟩

theorem vQ {w1 W:World}(h:Below w1.heap.size w1 W)(g:Nat)(hg:w1.heap.size<=g)(a b c d e:Value):Below w1.heap.size w1 (((((W.setCell ⟨g,0,none⟩ a).setCell ⟨g,1,none⟩ b).setCell ⟨g,2,none⟩ c).setCell ⟨g,3,none⟩ d).setCell ⟨g,4,none⟩ e):=
 ((((h.setCell (p:=⟨g,0,none⟩) hg a).setCell (p:=⟨g,1,none⟩) hg b).setCell (p:=⟨g,2,none⟩) hg c).setCell (p:=⟨g,3,none⟩) hg d).setCell (p:=⟨g,4,none⟩) hg e

structure Z5 (v:World)(g:Nat):Prop where
 c0:v.cell? ⟨g,0,none⟩=some (.int .i64 0)
 c1:v.cell? ⟨g,1,none⟩=some (.bool false)
 c2:v.cell? ⟨g,2,none⟩=some (.int .u64 0)
 c3:v.cell? ⟨g,3,none⟩=some (.int .u64 0)
 c4:v.cell? ⟨g,4,none⟩=some (.int .i64 0)
 f0:v.frozen? ⟨g,0,none⟩=false
 f1:v.frozen? ⟨g,1,none⟩=false
 f2:v.frozen? ⟨g,2,none⟩=false
 f3:v.frozen? ⟨g,3,none⟩=false
 f4:v.frozen? ⟨g,4,none⟩=false
 lt:g<v.heap.size

theorem Z5.below {v v':World}{g:Nat}(h:Z5 v g)(hb:Below v.heap.size v v'):Z5 v' g:=
 ⟨(hb.cell h.lt).trans h.c0,(hb.cell h.lt).trans h.c1,(hb.cell h.lt).trans h.c2,(hb.cell h.lt).trans h.c3,(hb.cell h.lt).trans h.c4,(hb.frozen h.lt).trans h.f0,(hb.frozen h.lt).trans h.f1,(hb.frozen h.lt).trans h.f2,(hb.frozen h.lt).trans h.f3,(hb.frozen h.lt).trans h.f4,Nat.lt_of_lt_of_le h.lt hb.size⟩

theorem Z5.al {v:World}{g:Nat}(h:Z5 v g)(o:Obj):Z5 (v.alloc o) g:=h.below ((Below.refl _ _).alloc (Nat.le_refl _) o)

def P5 (v:World)(g:Nat)(t:M.Pt):Prop:=v.cell? ⟨g,0,none⟩=some (.int .i64 t.c)/\v.cell? ⟨g,1,none⟩=some (.bool t.n)/\v.cell? ⟨g,2,none⟩=some (.int .u64 (M.hiN t.s:Int))/\v.cell? ⟨g,3,none⟩=some (.int .u64 (M.loN t.s:Int))/\v.cell? ⟨g,4,none⟩=some (.int .i64 t.q)/\g<v.heap.size

theorem AU {v:World}{g:Nat}(h:Z5 v g)(t:M.Pt):P5 (((((v.setCell ⟨g,0,none⟩ (.int .i64 t.c)).setCell ⟨g,1,none⟩ (.bool t.n)).setCell ⟨g,2,none⟩ (.int .u64 (M.hiN t.s:Int))).setCell ⟨g,3,none⟩ (.int .u64 (M.loN t.s:Int))).setCell ⟨g,4,none⟩ (.int .i64 t.q)) g t:=by
 obtain⟨c0,c1,c2,c3,c4,f0,f1,f2,f3,f4,lt⟩:=h;unfold P5
 simp[go_sem,c0,c1,c2,c3,c4]
 simpa using lt

theorem Z5.far {v:World}{g k:Nat}(h:Z5 v g)(hk:g≠k)(a b c d e:Value):Z5 (((((v.setCell ⟨k,0,none⟩ a).setCell ⟨k,1,none⟩ b).setCell ⟨k,2,none⟩ c).setCell ⟨k,3,none⟩ d).setCell ⟨k,4,none⟩ e) g:=by
 have hh:(((((v.setCell ⟨k,0,none⟩ a).setCell ⟨k,1,none⟩ b).setCell ⟨k,2,none⟩ c).setCell ⟨k,3,none⟩ d).setCell ⟨k,4,none⟩ e).heap[g]? =v.heap[g]?:=(((((Below.heap_setCell _ _ _ _ hk).trans (Below.heap_setCell _ _ _ _ hk)).trans (Below.heap_setCell _ _ _ _ hk)).trans (Below.heap_setCell _ _ _ _ hk)).trans (Below.heap_setCell _ _ _ _ hk))
 have hc:∀o,(((((v.setCell ⟨k,0,none⟩ a).setCell ⟨k,1,none⟩ b).setCell ⟨k,2,none⟩ c).setCell ⟨k,3,none⟩ d).setCell ⟨k,4,none⟩ e).cell? ⟨g,o,none⟩=v.cell? ⟨g,o,none⟩:=fun o=>World.cell?_of_block (w:=v) (a:=⟨g,o,none⟩) hh
 have hf:∀o,(((((v.setCell ⟨k,0,none⟩ a).setCell ⟨k,1,none⟩ b).setCell ⟨k,2,none⟩ c).setCell ⟨k,3,none⟩ d).setCell ⟨k,4,none⟩ e).frozen? ⟨g,o,none⟩=v.frozen? ⟨g,o,none⟩:=fun o=>World.frozen?_of_block (w:=v) (a:=⟨g,o,none⟩) hh
 exact⟨(hc 0).trans h.c0,(hc 1).trans h.c1,(hc 2).trans h.c2,(hc 3).trans h.c3,(hc 4).trans h.c4,(hf 0).trans h.f0,(hf 1).trans h.f1,(hf 2).trans h.f2,(hf 3).trans h.f3,(hf 4).trans h.f4,by simpa using h.lt⟩

theorem P5.far {v:World}{g k:Nat}{t:M.Pt}(h:P5 v g t)(hk:g≠k)(a b c d e:Value):P5 (((((v.setCell ⟨k,0,none⟩ a).setCell ⟨k,1,none⟩ b).setCell ⟨k,2,none⟩ c).setCell ⟨k,3,none⟩ d).setCell ⟨k,4,none⟩ e) g t:=by
 have hh:(((((v.setCell ⟨k,0,none⟩ a).setCell ⟨k,1,none⟩ b).setCell ⟨k,2,none⟩ c).setCell ⟨k,3,none⟩ d).setCell ⟨k,4,none⟩ e).heap[g]? =v.heap[g]?:=(((((Below.heap_setCell _ _ _ _ hk).trans (Below.heap_setCell _ _ _ _ hk)).trans (Below.heap_setCell _ _ _ _ hk)).trans (Below.heap_setCell _ _ _ _ hk)).trans (Below.heap_setCell _ _ _ _ hk))
 have hc:∀o,(((((v.setCell ⟨k,0,none⟩ a).setCell ⟨k,1,none⟩ b).setCell ⟨k,2,none⟩ c).setCell ⟨k,3,none⟩ d).setCell ⟨k,4,none⟩ e).cell? ⟨g,o,none⟩=v.cell? ⟨g,o,none⟩:=fun o=>World.cell?_of_block (w:=v) (a:=⟨g,o,none⟩) hh
 exact⟨(hc 0).trans h.1,(hc 1).trans h.2.1,(hc 2).trans h.2.2.1,(hc 3).trans h.2.2.2.1,(hc 4).trans h.2.2.2.2.1,by simpa using h.2.2.2.2.2⟩

theorem AF (v:World)(t:M.Pt):P5 (v.alloc (.cells #[.int .i64 t.c,.bool t.n,.int .u64 (M.hiN t.s:Int),.int .u64 (M.loN t.s:Int),.int .i64 t.q] 67)) v.heap.size t:=by
 unfold P5;simp[go_sem]

theorem P5.below {v v':World}{g:Nat}{t:M.Pt}(h:P5 v g t)(hb:Below v.heap.size v v'):P5 v' g t:=
 ⟨(hb.cell h.2.2.2.2.2).trans h.1,(hb.cell h.2.2.2.2.2).trans h.2.1,(hb.cell h.2.2.2.2.2).trans h.2.2.1,(hb.cell h.2.2.2.2.2).trans h.2.2.2.1,(hb.cell h.2.2.2.2.2).trans h.2.2.2.2.1,Nat.lt_of_lt_of_le h.2.2.2.2.2 hb.size⟩

theorem P5.al {v:World}{g:Nat}{t:M.Pt}(h:P5 v g t)(o:Obj):P5 (v.alloc o) g t:=h.below ((Below.refl _ _).alloc (Nat.le_refl _) o)

def Rel2 (v2:World)(S T:M.Pt)(p q:Value)(wx:World):Prop:=∃g k,p=.pointer (some ⟨g,0,none⟩)/\q=.pointer (some ⟨k,0,none⟩)/\P5 wx g S/\P5 wx k T/\Below v2.heap.size v2 wx

theorem Rel2.new {v2 v4:World}(S T:M.Pt)(hb:Below v2.heap.size v2 v4):Rel2 v2 S T (.pointer (some ⟨v4.heap.size,0,none⟩)) (.pointer (some ⟨v4.heap.size+1,0,none⟩)) ((v4.alloc (.cells #[.int .i64 S.c,.bool S.n,.int .u64 (M.hiN S.s:Int),.int .u64 (M.loN S.s:Int),.int .i64 S.q] 67)).alloc (.cells #[.int .i64 T.c,.bool T.n,.int .u64 (M.hiN T.s:Int),.int .u64 (M.loN T.s:Int),.int .i64 T.q] 67)):=by
 have h:=AF (v4.alloc (.cells #[.int .i64 S.c,.bool S.n,.int .u64 (M.hiN S.s:Int),.int .u64 (M.loN S.s:Int),.int .i64 S.q] 67)) T;have e:(v4.alloc (.cells #[.int .i64 S.c,.bool S.n,.int .u64 (M.hiN S.s:Int),.int .u64 (M.loN S.s:Int),.int .i64 S.q] 67)).heap.size=v4.heap.size+1:=by simp
 rw[e]at h;exact⟨_,_,rfl,rfl,(AF v4 S).al _,h,dZ (dZ hb _) _⟩

theorem Rel2.mid {v2 v4:World}{g:Nat}(S T:M.Pt)(hb:Below v2.heap.size v2 v4)(z:Z5 v4 g)(hg:v2.heap.size<=g):Rel2 v2 S T (.pointer (some ⟨g,0,none⟩)) (.pointer (some ⟨v4.heap.size,0,none⟩)) ((((((v4.setCell ⟨g,0,none⟩ (.int .i64 S.c)).setCell ⟨g,1,none⟩ (.bool S.n)).setCell ⟨g,2,none⟩ (.int .u64 (M.hiN S.s:Int))).setCell ⟨g,3,none⟩ (.int .u64 (M.loN S.s:Int))).setCell ⟨g,4,none⟩ (.int .i64 S.q)).alloc (.cells #[.int .i64 T.c,.bool T.n,.int .u64 (M.hiN T.s:Int),.int .u64 (M.loN T.s:Int),.int .i64 T.q] 67)):=by
 have h:=AF (((((v4.setCell ⟨g,0,none⟩ (.int .i64 S.c)).setCell ⟨g,1,none⟩ (.bool S.n)).setCell ⟨g,2,none⟩ (.int .u64 (M.hiN S.s:Int))).setCell ⟨g,3,none⟩ (.int .u64 (M.loN S.s:Int))).setCell ⟨g,4,none⟩ (.int .i64 S.q)) T;have e:(((((v4.setCell ⟨g,0,none⟩ (.int .i64 S.c)).setCell ⟨g,1,none⟩ (.bool S.n)).setCell ⟨g,2,none⟩ (.int .u64 (M.hiN S.s:Int))).setCell ⟨g,3,none⟩ (.int .u64 (M.loN S.s:Int))).setCell ⟨g,4,none⟩ (.int .i64 S.q)).heap.size=v4.heap.size:=by simp
 rw[e]at h;exact⟨_,_,rfl,rfl,(AU z S).al _,h,dZ (vQ hb g hg _ _ _ _ _) _⟩

theorem Rel2.old {v2 v4:World}{g k:Nat}(S T:M.Pt)(hb:Below v2.heap.size v2 v4)(z:Z5 v4 g)(y:Z5 v4 k)(hg:v2.heap.size<=g)(hk:v2.heap.size<=k)(hne:g≠k):Rel2 v2 S T (.pointer (some ⟨g,0,none⟩)) (.pointer (some ⟨k,0,none⟩)) ((((((((((v4.setCell ⟨g,0,none⟩ (.int .i64 S.c)).setCell ⟨g,1,none⟩ (.bool S.n)).setCell ⟨g,2,none⟩ (.int .u64 (M.hiN S.s:Int))).setCell ⟨g,3,none⟩ (.int .u64 (M.loN S.s:Int))).setCell ⟨g,4,none⟩ (.int .i64 S.q)).setCell ⟨k,0,none⟩ (.int .i64 T.c)).setCell ⟨k,1,none⟩ (.bool T.n)).setCell ⟨k,2,none⟩ (.int .u64 (M.hiN T.s:Int))).setCell ⟨k,3,none⟩ (.int .u64 (M.loN T.s:Int))).setCell ⟨k,4,none⟩ (.int .i64 T.q)):=
 ⟨_,_,rfl,rfl,(AU z S).far hne _ _ _ _ _,AU (y.far (Ne.symm hne) _ _ _ _ _) T,vQ (vQ hb g hg _ _ _ _ _) k hk _ _ _ _ _⟩

end Go.Proofs.YtfdgkleoaehjaaaGreatDoor
namespace Go.Proofs.YtfdgkleoaehjaaaGreatDoor
open Go.RowKit
set_option linter.unusedVariables false
set_option maxRecDepth 100000

def uw (fld:Int):Nat:=(IntKind.u64.wrap fld).toNat

theorem Q0 (fld:Int):IntKind.u64.wrap fld=((uw fld:Nat):Int)/\uw fld<18446744073709551616:=by
 unfold uw;rw[IntKind.wrap_u64];omega

def js (F:M.Fm)(fld:Int)(sg:Nat):Nat:=if F.x=false/\0<fld then(sg+(2^128-F.lead))%2^128 else sg

theorem JX {F:M.Fm}{fld:Int}(sg:Nat)(h:F.x=false/\0<fld):js F fld sg=(sg+(2^128-F.lead))%2^128:=by unfold js;rw[if_pos h]

theorem NU {F:M.Fm}{fld:Int}(sg:Nat)(h:¬(F.x=false/\0<fld)):js F fld sg=sg:=by unfold js;rw[if_neg h]

theorem QV (F:M.Fm)(fld:Int){sg:Nat}(h:sg<2^128):js F fld sg<2^128:=by
 unfold js;split
 . exact Nat.mod_lt _ (by omega)
 . exact h

def jy (F:M.Fm)(fld:Int)(sg:Nat):Nat:=(uw fld*2^F.fb%2^128+js F fld sg)%2^128

def jn (F:M.Fm)(n:Bool)(fld:Int)(sg:Nat):Nat:=if n=true then(jy F fld sg+2^(F.wd-1))%2^128 else jy F fld sg

structure Jv (w v:World)(F:M.Fm)(fx:Bool)(sg:Nat):Prop where
 b:Below w.heap.size w v
 d:v.cell? ⟨w.heap.size,0,none⟩=some (.int .i64 (F.p:Int))/\v.cell? ⟨w.heap.size,1,none⟩=some (.int .i64 (1-(F.emax:Int)))/\v.cell? ⟨w.heap.size,2,none⟩=some (.int .i64 (F.emax:Int))/\v.cell? ⟨w.heap.size,3,none⟩=some (.int .i64 (F.wd:Int))/\v.cell? ⟨w.heap.size,4,none⟩=some (.int .i64 (F.e:Int))/\v.cell? ⟨w.heap.size,5,none⟩=some (.bool fx)
 s:W2 v (w.heap.size+1) sg
 r:W2 v (w.heap.size+1+1) 0

theorem W2.below {v v':World}{g X:Nat}(h:W2 v g X)(hb:Below v.heap.size v v'):W2 v' g X:=
 ⟨(hb.cell h.2.2.2.2).trans h.1,(hb.cell h.2.2.2.2).trans h.2.1,(hb.frozen h.2.2.2.2).trans h.2.2.1,(hb.frozen h.2.2.2.2).trans h.2.2.2.1,Nat.lt_of_lt_of_le h.2.2.2.2 hb.size⟩

theorem Jv.below {w v v':World}{F:M.Fm}{fx:Bool}{sg:Nat}(h:Jv w v F fx sg)(hb:Below v.heap.size v v'):Jv w v' F fx sg:=by
 have hl:w.heap.size<v.heap.size:=Nat.lt_trans (Nat.lt_succ_self _) h.s.2.2.2.2;obtain⟨d0,d1,d2,d3,d4,d5⟩:=h.d;exact⟨h.b.trans (hb.mono h.b.size),⟨(hb.cell hl).trans d0,(hb.cell hl).trans d1,(hb.cell hl).trans d2,(hb.cell hl).trans d3,(hb.cell hl).trans d4,(hb.cell hl).trans d5⟩,h.s.below hb,h.r.below hb⟩

theorem wX (v:World):W2 (v.alloc (.cells #[.int .u64 0,.int .u64 0] 27)) v.heap.size 0:=by
 have:=KJ v 0 27;rw[hi0,lo0]at this;exact this

theorem Jv.raw {w v:World}{F:M.Fm}{fx:Bool}{sg:Nat}(h:Jv w v F fx sg):v.cell? ⟨w.heap.size,0,none⟩=some (.int .i64 (F.p:Int))/\v.cell? ⟨w.heap.size,1,none⟩=some (.int .i64 (1-(F.emax:Int)))/\v.cell? ⟨w.heap.size,2,none⟩=some (.int .i64 (F.emax:Int))/\v.cell? ⟨w.heap.size,3,none⟩=some (.int .i64 (F.wd:Int))/\v.cell? ⟨w.heap.size,4,none⟩=some (.int .i64 (F.e:Int))/\v.cell? ⟨w.heap.size,5,none⟩=some (.bool fx)/\v.cell? ⟨w.heap.size+1,0,none⟩=some (.int .u64 (M.hiN sg:Int))/\v.cell? ⟨w.heap.size+1,1,none⟩=some (.int .u64 (M.loN sg:Int)):=by
 obtain⟨d0,d1,d2,d3,d4,d5⟩:=h.d;exact⟨d0,d1,d2,d3,d4,d5,h.s.1,h.s.2.1⟩

theorem Jv.set {w v:World}{F:M.Fm}{fx:Bool}{sg:Nat}(h:Jv w v F fx sg)(s':Nat):Jv w ((v.setCell ⟨w.heap.size+1,0,none⟩ (.int .u64 (M.hiN s':Int))).setCell ⟨w.heap.size+1,1,none⟩ (.int .u64 (M.loN s':Int))) F fx s':=by
 obtain⟨d0,d1,d2,d3,d4,d5⟩:=h.d;obtain⟨s0,s1,s2,s3,s4⟩:=h.s;obtain⟨r0,r1,r2,r3,r4⟩:=h.r;refine⟨(h.b.setCell (p:=⟨w.heap.size+1,0,none⟩) (Nat.le_succ _) _).setCell (p:=⟨w.heap.size+1,1,none⟩) (Nat.le_succ _) _,⟨?_,?_,?_,?_,?_,?_⟩,AH s0 s1 s2 s3,⟨?_,?_,?_,?_,by simpa using r4⟩⟩
 . exact(gL v _ _ (by omega)).trans d0
 . exact(gL v _ _ (by omega)).trans d1
 . exact(gL v _ _ (by omega)).trans d2
 . exact(gL v _ _ (by omega)).trans d3
 . exact(gL v _ _ (by omega)).trans d4
 . exact(gL v _ _ (by omega)).trans d5
 . exact(gL v _ _ (by omega)).trans r0
 . exact(gL v _ _ (by omega)).trans r1
 . exact(uK v _ _ (by omega)).trans r2
 . exact(uK v _ _ (by omega)).trans r3

theorem MD (F:M.Fm)(fx n:Bool)(fld:Int)(sg Z:Nat)(w:World)(hZ:¬(fx=false/\0<fld)->Z=sg)
 (kL:∀v:World,Calls Tryz.prog 94 #[.agg #[.int .i64 (F.p:Int),.int .i64 (1-(F.emax:Int)),.int .i64 (F.emax:Int),.int .i64 (F.wd:Int),.int .i64 (F.e:Int),.bool fx]] v fun e w'=>e=.returned (.agg #[.int .u64 (M.hiN F.lead:Int),.int .u64 (M.loN F.lead:Int)])/\Below v.heap.size v w')
 (kM:fx=false/\0<fld->∀v:World,Calls Tryz.prog 105 #[.agg #[.int .u64 (M.hiN sg:Int),.int .u64 (M.loN sg:Int)],.agg #[.int .u64 (M.hiN F.lead:Int),.int .u64 (M.loN F.lead:Int)]] v fun e w'=>e=.returned (.agg #[.int .u64 (M.hiN Z:Int),.int .u64 (M.loN Z:Int)])/\Below v.heap.size v w')(U Y T R Q:Nat)(hwd:F.wd<=128)(hwd1:1<=F.wd)(hQ:Q=if n=true then R else Y)
 (kB:∀(v:World)(z:Int),z=(F.wd:Int)-1->Calls Tryz.prog 95 #[.int .i64 z] v fun e w'=>e=.returned (.agg #[.int .u64 (M.hiN T:Int),.int .u64 (M.loN T:Int)])/\Below v.heap.size v w')
 (kQ:∀v:World,Calls Tryz.prog 77 #[.agg #[.int .u64 (M.hiN Y:Int),.int .u64 (M.loN Y:Int)],.agg #[.int .u64 (M.hiN T:Int),.int .u64 (M.loN T:Int)]] v fun e w'=>e=.returned (.agg #[.int .u64 (M.hiN R:Int),.int .u64 (M.loN R:Int)])/\Below v.heap.size v w')
 (kF:∀v:World,Calls Tryz.prog 104 #[.agg #[.int .i64 (F.p:Int),.int .i64 (1-(F.emax:Int)),.int .i64 (F.emax:Int),.int .i64 (F.wd:Int),.int .i64 (F.e:Int),.bool fx]] v fun e w'=>e=.returned (.int .i64 (F.fb:Int))/\Below v.heap.size v w')
 (kS:∀v:World,Calls Tryz.prog 75 #[.agg #[.int .u64 0,.int .u64 (IntKind.u64.wrap fld)],.int .i64 (F.fb:Int)] v fun e w'=>e=.returned (.agg #[.int .u64 (M.hiN U:Int),.int .u64 (M.loN U:Int)])/\Below v.heap.size v w')
 (kP:∀v:World,Calls Tryz.prog 77 #[.agg #[.int .u64 (M.hiN U:Int),.int .u64 (M.loN U:Int)],.agg #[.int .u64 (M.hiN Z:Int),.int .u64 (M.loN Z:Int)]] v fun e w'=>e=.returned (.agg #[.int .u64 (M.hiN Y:Int),.int .u64 (M.loN Y:Int)])/\Below v.heap.size v w'):
 Calls Tryz.prog 93 #[.agg #[.int .i64 (F.p:Int),.int .i64 (1-(F.emax:Int)),.int .i64 (F.emax:Int),.int .i64 (F.wd:Int),.int .i64 (F.e:Int),.bool fx],.bool n,.int .i64 fld,.agg #[.int .u64 (M.hiN sg:Int),.int .u64 (M.loN sg:Int)]] w fun e w'=>e=.returned (.agg #[.int .u64 (M.hiN Q:Int),.int .u64 (M.loN Q:Int)])/\Below w.heap.size w w':=by
 have HZ:=hid hZ;have HM:=hid kM;clear hZ kM;go_enter Tryz.func93,Tryz.ntmps93;go_upto_region 1 with fail
 have J0:Jv w (((w.alloc (.cells #[.int .i64 (F.p:Int),.int .i64 (1-(F.emax:Int)),.int .i64 (F.emax:Int),.int .i64 (F.wd:Int),.int .i64 (F.e:Int),.bool fx] 37)).alloc (.cells #[.int .u64 (M.hiN sg:Int),.int .u64 (M.loN sg:Int)] 27)).alloc (.cells #[.int .u64 0,.int .u64 0] 27)) F fx sg:=by
  refine⟨(((Below.refl _ _).alloc (Nat.le_refl _) _).alloc (by simp) _).alloc (by simp;omega) _,⟨?_,?_,?_,?_,?_,?_⟩,⟨?_,?_,?_,?_,?_⟩,⟨?_,?_,?_,?_,?_⟩⟩<;>simp[go_sem,hi0,lo0]<;>omega
 generalize(((w.alloc (.cells #[.int .i64 (F.p:Int),.int .i64 (1-(F.emax:Int)),.int .i64 (F.emax:Int),.int .i64 (F.wd:Int),.int .i64 (F.e:Int),.bool fx] 37)).alloc (.cells #[.int .u64 (M.hiN sg:Int),.int .u64 (M.loN sg:Int)] 27)).alloc (.cells #[.int .u64 0,.int .u64 0] 27))=v0 at*;obtain⟨bb,hbb⟩:∃bb:Bool,bb=decide (fx=false/\0<fld):=⟨_,rfl⟩;have HBB:=hid hbb;clear hbb
 go_cut[16] (fun x wx=>x=.bool bb/\wx=v0)
 case first=>
  obtain⟨d0,d1,d2,d3,d4,d5⟩:=id J0.d
  cases fx<;>by_cases h0:0<fld
  all_goals(
   go_wp2_with fail;go_meet
   exact⟨by rw[HBB.out];simp[h0],rfl⟩)
 case rest=>
 obtain⟨rfl,hww⟩:=hcut;replace hww:=hww.symm;subst hww;cases bb;go_upto_region 3 with fail;have hz:=HZ.out (of_decide_eq_false HBB.out.symm);clear HM HZ HBB;subst hz;have J1:=J0;clear J0;obtain⟨wx,hwx⟩:∃wx,wx=v0:=⟨_,rfl⟩;subst hwx;rotate_left
 focus
  have kM:=HM.out (of_decide_eq_true HBB.out.symm);clear HZ HM HBB;go_upto_region 2 with fail;have A0:Below v0.heap.size v0 v0.drew:=(Below.refl _ _).drew;obtain⟨e0,e1,-,-,-⟩:=(J0.below A0).s
  have KH:∀v,Below v0.heap.size v0 v->(fun v=>v.cell? ⟨w.heap.size,0,none⟩=some (.int .i64 (F.p:Int))/\v.cell? ⟨w.heap.size,1,none⟩=some (.int .i64 (1-(F.emax:Int)))/\v.cell? ⟨w.heap.size,2,none⟩=some (.int .i64 (F.emax:Int))/\v.cell? ⟨w.heap.size,3,none⟩=some (.int .i64 (F.wd:Int))/\v.cell? ⟨w.heap.size,4,none⟩=some (.int .i64 (F.e:Int))/\v.cell? ⟨w.heap.size,5,none⟩=some (.bool fx)) v:=fun v hv=>(J0.below hv).d
  have KS:∀v x y,Below v0.heap.size v0 v->(fun v=>v.cell? ⟨w.heap.size,0,none⟩=some (.int .i64 (F.p:Int))/\v.cell? ⟨w.heap.size,1,none⟩=some (.int .i64 (1-(F.emax:Int)))/\v.cell? ⟨w.heap.size,2,none⟩=some (.int .i64 (F.emax:Int))/\v.cell? ⟨w.heap.size,3,none⟩=some (.int .i64 (F.wd:Int))/\v.cell? ⟨w.heap.size,4,none⟩=some (.int .i64 (F.e:Int))/\v.cell? ⟨w.heap.size,5,none⟩=some (.bool fx)) ((v.setCell ⟨w.heap.size+1,0,none⟩ x).setCell ⟨w.heap.size+1,1,none⟩ y):=fun v x y hv=>by
   obtain⟨d0,d1,d2,d3,d4,d5⟩:=(J0.below hv).d;exact⟨(gL v _ _ (by omega)).trans d0,(gL v _ _ (by omega)).trans d1,(gL v _ _ (by omega)).trans d2,(gL v _ _ (by omega)).trans d3,(gL v _ _ (by omega)).trans d4,(gL v _ _ (by omega)).trans d5⟩
  have JB:∀v,Below v0.heap.size v0 v->Jv w v F fx sg:=fun v hv=>J0.below hv
  go_cut[7] (fun p wx=>p=.pointer (some ⟨w.heap.size+1,0,none⟩)/\Jv w wx F fx Z)
  case first=>
   obtain⟨d0,d1,d2,d3,d4,d5⟩:=(J0.below A0).d
   go_region_with (first|(have hq:=hb1;clear hq;go_at_call 105;refine(kM _).mono ?_;rintro e u2 ⟨rfl,hb0⟩;have hb2:=aK (w1:=v0) hb1 hb0;clear hb0;obtain⟨y0,y1,y2,y3,-⟩:=(JB _ hb2).s)|(go_at_call 94;refine(kL _).mono ?_;rintro e u1 ⟨rfl,hb0⟩;have hb1:=aK (w1:=v0) A0 hb0;clear hb0;obtain⟨x0,x1,-,-,-⟩:=(JB _ hb1).s;obtain⟨m0,m1,m2,m3,m4,m5⟩:=(JB _ hb1).d))
   all_goals go_wp2_with fail
   all_goals go_meet
   all_goals exact⟨rfl,(JB _ hb2).set Z⟩
  case' rest=>
   rename World=>wx
   obtain⟨rfl,J1⟩:=hcut;go_upto_region 3 with fail
 all_goals(
  have A0:Below wx.heap.size wx wx.drew:=(Below.refl _ _).drew;have A1:Below wx.heap.size wx (wx.alloc (.cells #[.int .u64 0,.int .u64 0] 27)).drew:=(dZ (Below.refl _ _) _).drew;have ZA:W2 (wx.alloc (.cells #[.int .u64 0,.int .u64 0] 27)).drew wx.heap.size 0:=(wX wx).below (Below.refl _ _).drew
  have JB:∀v,Below wx.heap.size wx v->Jv w v F fx Z:=fun v hv=>J1.below hv
  have KH:∀v,Below wx.heap.size wx v->(fun v=>v.cell? ⟨w.heap.size,0,none⟩=some (.int .i64 (F.p:Int))/\v.cell? ⟨w.heap.size,1,none⟩=some (.int .i64 (1-(F.emax:Int)))/\v.cell? ⟨w.heap.size,2,none⟩=some (.int .i64 (F.emax:Int))/\v.cell? ⟨w.heap.size,3,none⟩=some (.int .i64 (F.wd:Int))/\v.cell? ⟨w.heap.size,4,none⟩=some (.int .i64 (F.e:Int))/\v.cell? ⟨w.heap.size,5,none⟩=some (.bool fx)/\v.cell? ⟨w.heap.size+1,0,none⟩=some (.int .u64 (M.hiN Z:Int))/\v.cell? ⟨w.heap.size+1,1,none⟩=some (.int .u64 (M.loN Z:Int))) v:=fun v hv=>(JB v hv).raw
  go_cut[9] (fun p wy=>∃nb,p=.pointer (some ⟨nb,0,none⟩)/\wx.heap.size<=nb/\W2 wy nb Y/\Below wx.heap.size wx wy)
  case first=>
   go_region_held3 (fun v=>v.cell? ⟨w.heap.size,0,none⟩=some (.int .i64 (F.p:Int))/\v.cell? ⟨w.heap.size,1,none⟩=some (.int .i64 (1-(F.emax:Int)))/\v.cell? ⟨w.heap.size,2,none⟩=some (.int .i64 (F.emax:Int))/\v.cell? ⟨w.heap.size,3,none⟩=some (.int .i64 (F.wd:Int))/\v.cell? ⟨w.heap.size,4,none⟩=some (.int .i64 (F.e:Int))/\v.cell? ⟨w.heap.size,5,none⟩=some (.bool fx)/\v.cell? ⟨w.heap.size+1,0,none⟩=some (.int .u64 (M.hiN Z:Int))/\v.cell? ⟨w.heap.size+1,1,none⟩=some (.int .u64 (M.loN Z:Int))) (first|with_reducible exact KH _ hb3|with_reducible exact KH _ (dZ hb3 _)|with_reducible exact KH _ hb2|with_reducible exact KH _ (dZ hb2 _)|with_reducible exact KH _ hb1|with_reducible exact KH _ (dZ hb1 _)|with_reducible exact KH _ A0|with_reducible exact KH _ A1|with_reducible exact KH _ (qV (qV hb3 _ _ (by first|with_reducible exact Nat.le_refl _|with_reducible exact hs1|with_reducible exact hs2|with_reducible exact hs3) _) _ _ (by first|with_reducible exact Nat.le_refl _|with_reducible exact hs1|with_reducible exact hs2|with_reducible exact hs3) _))
    (first|(have hq:=hb2;clear hq;go_at_call 77;refine(kP _).mono ?_;rintro e u3 ⟨rfl,hb0⟩;have hb3:=aK (w1:=wx) (by first|with_reducible exact hb2|with_reducible exact dZ hb2 _) hb0;have hs3:=hb3.size;(first|(with_reducible replace z:=z.below hb0)|(with_reducible have z:=(wX u2).below hb0)|skip);clear hb0;(try(have zz:=z;obtain⟨z0,z1,z2,z3,z4⟩:=zz)))|(have hq:=hb1;clear hq;go_at_call 75;refine(kS _).mono ?_;rintro e u2 ⟨rfl,hb0⟩;have hb2:=aK (w1:=wx) (by first|with_reducible exact hb1|with_reducible exact dZ hb1 _) hb0;have hs2:=hb2.size;(first|(with_reducible replace z:=z.below hb0)|(with_reducible have z:=(wX u1).below hb0)|skip);clear hb0)|(go_at_call 104;refine(kF _).mono ?_;rintro e u1 ⟨rfl,hb0⟩;have hb1:=aK (w1:=wx) (by first|with_reducible exact A0|with_reducible exact A1) hb0;have hs1:=hb1.size;(first|(with_reducible have z:=ZA.below hb0)|skip);clear hb0 ZA))
   all_goals go_wp2_with fail
   all_goals go_meet
   all_goals first|exact⟨_,rfl,hs3,KJ u3 Y _,dZ hb3 _⟩|exact⟨_,rfl,(by first|with_reducible exact Nat.le_refl _|with_reducible exact hs1|with_reducible exact hs2|with_reducible exact hs3),AH z.1 z.2.1 z.2.2.1 z.2.2.2.1,qV (qV hb3 _ _ (by first|with_reducible exact Nat.le_refl _|with_reducible exact hs1|with_reducible exact hs2|with_reducible exact hs3) _) _ _ (by first|with_reducible exact Nat.le_refl _|with_reducible exact hs1|with_reducible exact hs2|with_reducible exact hs3) _⟩
  case rest=>
   rename World=>wy
   obtain⟨nb,rfl,hnb,hW,hby⟩:=hcut;have J2:=JB _ hby;have hrl:=J1.r.2.2.2.2;clear ZA A0 A1 KH JB;cases n
   . skip;simp only[Bool.false_eq_true,if_false]at hQ;subst hQ;obtain⟨x0,x1,-,-,-⟩:=id hW;obtain⟨r0,r1,r2,r3,-⟩:=J2.r;go_wp2_with fail;exact bodyPost_ret (v:=.agg #[.int .u64 (M.hiN Q:Int),.int .u64 (M.loN Q:Int)]) (by simp[results,Tryz.results93,go_sem,r0,r1]) rfl ⟨rfl,(J2.b.setCell (p:=⟨w.heap.size+1+1,0,none⟩) (by simp only;omega) _).setCell (p:=⟨w.heap.size+1+1,1,none⟩) (by simp only;omega) _⟩
   . skip;simp only[if_true]at hQ;subst hQ;go_upto_region 5 with fail;have C0:Below wy.heap.size wy wy.drew:=(Below.refl _ _).drew;obtain⟨x0,x1,-,-,-⟩:=hW.below C0;obtain⟨d0,d1,d2,d3,d4,d5⟩:=(J2.below C0).d
     go_region_with (first|(have hq:=hc1;clear hq;go_at_call 77;refine(kQ _).mono ?_;rintro e u5 ⟨rfl,hb0⟩;have hc2:=aK (w1:=wy) hc1 hb0;clear hb0;obtain⟨y0,y1,y2,y3,-⟩:=hW.below hc2)|(go_at_call 95;refine(kB _ _ (by first|with_reducible rfl|omega|(simp only[IntKind.wrap_i64];omega))).mono ?_;rintro e u4 ⟨rfl,hb0⟩;have hc1:=aK (w1:=wy) C0 hb0;clear hb0;obtain⟨s0,s1,-,-,-⟩:=hW.below hc1;obtain⟨m0,m1,m2,m3,m4,m5⟩:=(J2.below hc1).d))
     all_goals have J5:=J2.below hc2
     all_goals obtain⟨r0,r1,r2,r3,r4⟩:=J5.r
     all_goals have nrb:w.heap.size+1+1≠nb:=by omega
     all_goals have q0:=fun x y=>(gL u5 x y nrb).trans r0
     all_goals have q1:=fun x y=>(gL u5 x y nrb).trans r1
     all_goals have q2:=fun x y=>(uK u5 x y nrb).trans r2
     all_goals have q3:=fun x y=>(uK u5 x y nrb).trans r3
     all_goals go_wp2_with fail
     all_goals have hnw:w.heap.size<=nb:=by omega
     all_goals exact bodyPost_ret (v:=.agg #[.int .u64 (M.hiN Q:Int),.int .u64 (M.loN Q:Int)]) (by simp[results,Tryz.results93,go_sem,q0,q1]) rfl ⟨rfl,(((J5.b.setCell (p:=⟨nb,0,none⟩) hnw _).setCell (p:=⟨nb,1,none⟩) hnw _).setCell (p:=⟨w.heap.size+1+1,0,none⟩) (by simp only;omega) _).setCell (p:=⟨w.heap.size+1+1,1,none⟩) (by simp only;omega) _⟩)

theorem QY {F:M.Fm}(h:F.Ok):F.fb<128:=by
 have:=h.p2;unfold M.Fm.fb
 split<;>omega

theorem vR {F:M.Fm}(h:F.Ok):1<=F.wd:=by
 unfold M.Fm.wd;omega

theorem nR {F:M.Fm}(h:F.Ok):F.lead<2^128:=by
 have:=h.p2;unfold M.Fm.lead;exact Nat.pow_lt_pow_right (by omega) (by omega)

theorem R6 (F:M.Fm)(h:F.Ok)(fld:Int)(v:World):Calls Tryz.prog 75 #[.agg #[.int .u64 0,.int .u64 (IntKind.u64.wrap fld)],.int .i64 (F.fb:Int)] v fun e w'=>e=.returned (.agg #[.int .u64 (M.hiN (uw fld*2^F.fb%2^128):Int),.int .u64 (M.loN (uw fld*2^F.fb%2^128):Int)])/\Below v.heap.size v w':=by
 obtain⟨e1,e2⟩:=Q0 fld;have k:=QZ (uw fld) F.fb v (by omega) (QY h) _ rfl;have h1:M.hiN (uw fld)=0:=by unfold M.hiN;omega
 have h2:M.loN (uw fld)=uw fld:=by unfold M.loN;omega
 rw[h1,h2]at k;rw[e1];exact k

theorem IE (F:M.Fm)(h:F.Ok)(n:Bool)(fld:Int)(sg:Nat)(hsg:sg<2^128)(w:World):
 Calls Tryz.prog 93 #[.agg #[.int .i64 (F.p:Int),.int .i64 (1-(F.emax:Int)),.int .i64 (F.emax:Int),.int .i64 (F.wd:Int),.int .i64 (F.e:Int),.bool F.x],.bool n,.int .i64 fld,.agg #[.int .u64 (M.hiN sg:Int),.int .u64 (M.loN sg:Int)]] w fun e w'=>e=.returned (.agg #[.int .u64 (M.hiN (jn F n fld sg):Int),.int .u64 (M.loN (jn F n fld sg):Int)])/\Below w.heap.size w w':=by
 have kF:=fun v:World=>Q3 F h v
 have kL:=fun v:World=>LC F h v
 have hjs:=QV F fld hsg;have hU:uw fld*2^F.fb%2^128<2^128:=Nat.mod_lt _ (by omega);have hY:jy F fld sg<2^128:=Nat.mod_lt _ (by omega);have hT:2^(F.wd-1)<2^128:=Nat.pow_lt_pow_right (by omega) (by have:=h.w;have:=vR h;omega)
 have kP:=fun v:World=>DG _ _ v hU hjs (jy F fld sg) rfl
 have kB:∀(v:World)(z:Int),z=(F.wd:Int)-1->Calls Tryz.prog 95 #[.int .i64 z] v fun e w'=>e=.returned (.agg #[.int .u64 (M.hiN (2^(F.wd-1)):Int),.int .u64 (M.loN (2^(F.wd-1)):Int)])/\Below v.heap.size v w':=fun v z hz=>by
  have hp:=vR h;rw[hz,show(F.wd:Int)-1=((F.wd-1:Nat):Int) by omega];exact wH (F.wd-1) v (by have:=h.w;omega) _ rfl
 have kQ:=fun v:World=>DG _ _ v hY hT _ rfl
 have hQ:jn F n fld sg=if n=true then(jy F fld sg+2^(F.wd-1))%2^128 else jy F fld sg:=rfl;simp only[dv]at kF kL
 exact MD F F.x n fld sg (js F fld sg) w (NU sg) kL (fun hh v=>PY sg F.lead v hsg (nR h) (js F fld sg) (JX sg hh)) _ _ _ _ _ h.w (vR h) hQ kB kQ kF (fun v=>R6 F h fld v) kP

theorem Cls.new2 (v:World)(xs ys:Array Value)(t s:TypeId):Cls ((v.alloc (.cells xs t)).alloc (.cells ys s)) v.heap.size xs t/\Cls ((v.alloc (.cells xs t)).alloc (.cells ys s)) (v.heap.size+1) ys s/\Below v.heap.size v ((v.alloc (.cells xs t)).alloc (.cells ys s)):=by
 have b1:Below v.heap.size v (v.alloc (.cells xs t)):=(Below.refl _ _).alloc (Nat.le_refl _) _;have b2:Below (v.alloc (.cells xs t)).heap.size (v.alloc (.cells xs t)) ((v.alloc (.cells xs t)).alloc (.cells ys s)):=(Below.refl _ _).alloc (Nat.le_refl _) _;refine⟨(Cls.new v xs t).below b2,?_,b1.trans (b2.mono b1.size)⟩;have:=Cls.new (v.alloc (.cells xs t)) ys s
 rwa[World.size_alloc]at this

theorem Cls.new3 (v:World)(xs ys zs:Array Value)(t s r:TypeId):Cls (((v.alloc (.cells xs t)).alloc (.cells ys s)).alloc (.cells zs r)) v.heap.size xs t/\Cls (((v.alloc (.cells xs t)).alloc (.cells ys s)).alloc (.cells zs r)) (v.heap.size+1) ys s/\Cls (((v.alloc (.cells xs t)).alloc (.cells ys s)).alloc (.cells zs r)) (v.heap.size+1+1) zs r/\Below v.heap.size v (((v.alloc (.cells xs t)).alloc (.cells ys s)).alloc (.cells zs r)):=by
 obtain⟨c1,c2,b1⟩:=Cls.new2 v xs ys t s;have b2:Below ((v.alloc (.cells xs t)).alloc (.cells ys s)).heap.size ((v.alloc (.cells xs t)).alloc (.cells ys s)) (((v.alloc (.cells xs t)).alloc (.cells ys s)).alloc (.cells zs r)):=(Below.refl _ _).alloc (Nat.le_refl _) _;refine⟨c1.below b2,c2.below b2,?_,b1.trans (b2.mono b1.size)⟩;have:=Cls.new ((v.alloc (.cells xs t)).alloc (.cells ys s)) zs r
 rwa[World.size_alloc,World.size_alloc]at this

end Go.Proofs.YtfdgkleoaehjaaaGreatDoor
