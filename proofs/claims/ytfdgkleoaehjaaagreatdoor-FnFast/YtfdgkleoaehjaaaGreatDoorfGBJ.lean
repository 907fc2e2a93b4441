import Derived.Test.YtfdgkleoaehjaaaGreatDoorfGBI
set_option maxHeartbeats 1000000
set_option maxRecDepth 100000
namespace Go.Proofs.YtfdgkleoaehjaaaGreatDoor
set_option linter.unusedVariables false
set_option maxRecDepth 100000

theorem QU (k W:Int)(hY:0<tY k W):tX k W<=fU k W*tY k W:=by
 have:=Nat.div_add_mod (tX k W) (tY k W);have l:=Nat.mod_lt (tX k W) hY;unfold fU fx fT
 by_cases c:tX k W%tY k W=0
 . rw[if_pos (by simpa using c),Nat.mul_comm];omega
 . rw[if_neg (by simpa using c),Nat.add_mul,Nat.one_mul,Nat.mul_comm];omega

theorem MA {d:M.Dec}(hd:M.Dig d.digits):fh d*10^(d.digits.length-19)<=M.dec d.digits/\M.dec d.digits<(fh d+1)*10^(d.digits.length-19):=by
 obtain⟨c,hc⟩:∃c,c=d.digits.length-19:=⟨_,rfl⟩
 have e:M.dec d.digits=fh d*10^c+M.dec (d.digits.drop (d.digits.length-c)):=by
  unfold fh;rw[<-hc]
  conv=>lhs;rw[<-List.take_append_drop (d.digits.length-c) d.digits]
  rw[M.sY,List.length_drop,show d.digits.length-(d.digits.length-c)=c by omega]
 have l:=M.iU (d.digits.drop (d.digits.length-c)) (fun x hx=>hd x (List.mem_of_mem_drop hx))
 rw[List.length_drop,show d.digits.length-(d.digits.length-c)=c by omega]at l;rw[<-hc,Nat.add_mul,Nat.one_mul];omega

theorem MZ {d:M.Dec}(hd:M.Dig d.digits)(hl:0<d.digits.length)(hc:∀c r,d.digits=c::r->c≠48):0<fh d/\0<M.dec d.digits:=by
 cases e:d.digits with
 |nil=>rw[e]at hl;simp at hl
 |cons c r=>
  have h48:=hc c r e;rw[e]at hd
  constructor
  . unfold fh;obtain⟨n,hn⟩:∃n,d.digits.length-(d.digits.length-19)=n+1:=⟨d.digits.length-(d.digits.length-19)-1,by omega⟩;rw[hn,e,List.take_succ_cons]
    refine Nat.lt_of_lt_of_le (Nat.pow_pos (by omega)) (M.A5 (r:=r.take n) (fun x hx=>hd x ?_) h48)
    rcases List.mem_cons.1 hx with rfl|hx
    . exact List.mem_cons_self
    . exact List.mem_cons_of_mem _ (List.mem_of_mem_take hx)
  . exact Nat.lt_of_lt_of_le (Nat.pow_pos (by omega)) (M.A5 hd h48)

theorem F8 {F:M.Fm}(h:F.Ok){d:M.Dec}{W:Int}(hd:M.Dig d.digits)(hp:0<M.dec d.digits)(hh:0<fh d)(hT:0<fT (fk d) W)(hi:fIn (fk d) W)(he:fEq F d W):
 rY F d.neg (fA d W*fP d W) (fQ d W)=rY F d.neg (peN d) (peD d)/\rF F (fA d W*fP d W) (fQ d W)=rF F (peN d) (peD d):=by
 obtain⟨lo,hi'⟩:=MA hd;have hY:0<tY (fk d) W:=Nat.mul_pos (Nat.pow_pos (by omega)) (Nat.pow_pos (by omega));have hTle:fT (fk d) W*tY (fk d) W<=tX (fk d) W:=Nat.div_mul_le_self _ _;have hUge:=QU (fk d) W hY
 have hTU:fT (fk d) W<=fU (fk d) W:=by unfold fU;split<;>omega
 have ek:fk d=d.exp+((d.digits.length-19:Nat):Int):=rfl
 have ec:M.aO d.exp d.digits.length=d.exp:=by
  obtain⟨i1,i2,-,-⟩:=hi;unfold M.aO;omega
 have l1:fA d W*fP d W*peD d<=peN d*fQ d W:=by
  unfold peN peD;rw[ec];exact M.MB ek lo hTle
 have l2:peN d*fQ d W<=fB d W*fP d W*peD d:=by
  unfold peN peD fB;rw[ec]
  by_cases c:0<d.digits.length-19
  . rw[if_pos c];exact M.DL ek (Nat.le_of_lt hi') hUge
  . rw[if_neg c];refine M.DL (c:=d.digits.length-19) ek ?_ hUge;rw[show d.digits.length-19=0 by omega,Nat.pow_zero,Nat.mul_one]at hi'|-;omega
 have pA:0<fA d W*fP d W:=Nat.mul_pos (Nat.mul_pos hh hT) (Nat.pow_pos (by omega));have pQ:0<fQ d W:=Nat.pow_pos (by omega);have pD:0<peD d:=Nat.pow_pos (by omega);have pN:0<peN d:=Nat.mul_pos hp (Nat.pow_pos (by omega))
 have pB:0<fB d W*fP d W:=by
  refine Nat.mul_pos ?_ (Nat.pow_pos (by omega));unfold fB;split
  . exact Nat.mul_pos (by omega) (by omega)
  . exact Nat.mul_pos hh (by omega)
 obtain⟨e1,e2,-⟩:=he
 have eY:rY F d.neg (fA d W*fP d W) (fQ d W)=rY F d.neg (fB d W*fP d W) (fQ d W):=by
  have a:=M.hl (rY F d.neg (fA d W*fP d W) (fQ d W));have b:=M.hl (rY F d.neg (fB d W*fP d W) (fQ d W));omega
 have eP:F.rPt d.neg (fA d W*fP d W) (fQ d W)=F.rPt d.neg (fB d W*fP d W) (fQ d W):=by
  unfold rY at eY;rw[if_neg (by omega),if_neg (by omega)]at eY;have a:=(h.upk_pk _ (h.rPt_proper d.neg _ _ pA pQ)).1;have b:=(h.upk_pk _ (h.rPt_proper d.neg _ _ pB pQ)).1;rw[<-a,<-b,eY]
 have m:=h.rPt_between d.neg pA pN pB pQ pD pQ l1 l2 eP
 constructor
 . unfold rY;rw[if_neg (by omega),if_neg (by omega),m]
 . unfold rF;rw[if_neg (by omega),if_neg (by omega)];exact(M.Fm.rFl_of m 2 1).symm

theorem GI (F:M.Fm){d:M.Dec}{W:Int}(hl:d.digits.length<=19)(h0:0<=d.exp)(h1:d.exp<=27)(hw:64<=W)(hw2:W<=128):fIn (fk d) W/\fEq F d W:=by
 have ek:fk d=d.exp:=by unfold fk;omega
 obtain⟨k,hk⟩:=Int.eq_ofNat_of_zero_le h0
 have hx:fx (fk d) W=true:=by
  unfold fx;rw[decide_eq_true_iff,ek,hk];unfold tX tY nW nE cE;rw[pR k (by omega),Int.toNat_natCast,show(-(k:Int)).toNat=0 by omega,Nat.pow_zero,Nat.one_mul];have hb:=eF (10^k) (Nat.pow_pos (by omega));generalize hB:aB (10^k)=b at*;rcases Int.lt_or_le 0 ((b:Int)-1-W+1)with c|c
  . rw[show(-((b:Int)-1-W+1)).toNat=0 by omega,Nat.pow_zero,Nat.mul_one];refine M.GZ (by omega) (Nat.le_trans (Nat.pow_le_pow_right (by omega) ?_) hb);omega
  . rw[show((b:Int)-1-W+1).toNat=0 by omega,Nat.pow_zero];exact Nat.mod_one _
 have eU:fU (fk d) W=fT (fk d) W:=by unfold fU;rw[hx];rfl
 have eB:fB d W=fA d W:=by
  unfold fB fA;rw[if_neg (by omega),eU]
 refine⟨⟨by omega,by omega,by omega,by omega⟩,?_⟩;unfold fEq;rw[eB];exact⟨rfl,rfl,rfl⟩

open Go.RowKit

structure Hv (w v:World)(gd g k:Nat)(e0 e1 e2 e3 e4:Int)(e5:Bool)(S T:M.Pt):Prop where
 b:Below w.heap.size w v
 d:v.cell? ⟨gd,0,none⟩=some (.int .i64 e0)/\v.cell? ⟨gd,1,none⟩=some (.int .i64 e1)/\v.cell? ⟨gd,2,none⟩=some (.int .i64 e2)/\v.cell? ⟨gd,3,none⟩=some (.int .i64 e3)/\v.cell? ⟨gd,4,none⟩=some (.int .i64 e4)/\v.cell? ⟨gd,5,none⟩=some (.bool e5)/\gd<v.heap.size
 s:P5 v g S
 t:P5 v k T

theorem Hv.below {w v v':World}{gd g k:Nat}{e0 e1 e2 e3 e4:Int}{e5:Bool}{S T:M.Pt}(h:Hv w v gd g k e0 e1 e2 e3 e4 e5 S T)(hb:Below v.heap.size v v'):Hv w v' gd g k e0 e1 e2 e3 e4 e5 S T:=by
 obtain⟨b,⟨d0,d1,d2,d3,d4,d5,ld⟩,s,t⟩:=h;exact⟨b.trans (hb.mono b.size),⟨(hb.cell ld).trans d0,(hb.cell ld).trans d1,(hb.cell ld).trans d2,(hb.cell ld).trans d3,(hb.cell ld).trans d4,(hb.cell ld).trans d5,Nat.lt_of_lt_of_le ld hb.size⟩,s.below hb,t.below hb⟩

theorem Hv.raw {w v:World}{gd g k:Nat}{e0 e1 e2 e3 e4:Int}{e5:Bool}{S T:M.Pt}(h:Hv w v gd g k e0 e1 e2 e3 e4 e5 S T):
 v.cell? ⟨gd,0,none⟩=some (.int .i64 e0)/\v.cell? ⟨gd,1,none⟩=some (.int .i64 e1)/\v.cell? ⟨gd,2,none⟩=some (.int .i64 e2)/\v.cell? ⟨gd,3,none⟩=some (.int .i64 e3)/\v.cell? ⟨gd,4,none⟩=some (.int .i64 e4)/\v.cell? ⟨gd,5,none⟩=some (.bool e5)
 /\v.cell? ⟨g,0,none⟩=some (.int .i64 S.c)/\v.cell? ⟨g,1,none⟩=some (.bool S.n)/\v.cell? ⟨g,2,none⟩=some (.int .u64 (M.hiN S.s:Int))/\v.cell? ⟨g,3,none⟩=some (.int .u64 (M.loN S.s:Int))/\v.cell? ⟨g,4,none⟩=some (.int .i64 S.q)
 /\v.cell? ⟨k,0,none⟩=some (.int .i64 T.c)/\v.cell? ⟨k,1,none⟩=some (.bool T.n)/\v.cell? ⟨k,2,none⟩=some (.int .u64 (M.hiN T.s:Int))/\v.cell? ⟨k,3,none⟩=some (.int .u64 (M.loN T.s:Int))/\v.cell? ⟨k,4,none⟩=some (.int .i64 T.q):=by
 obtain⟨b,⟨d0,d1,d2,d3,d4,d5,ld⟩,⟨s0,s1,s2,s3,s4,sl⟩,t0,t1,t2,t3,t4,tl⟩:=h;exact⟨d0,d1,d2,d3,d4,d5,s0,s1,s2,s3,s4,t0,t1,t2,t3,t4⟩

theorem OL (m:Nat)(xs:List Nat)(hl:xs.length=m):Scn m xs (aC xs).1 (aC xs).2.1 (aC xs).2.2:=by
 intro v ao cc h1 h2 h3;refine(jD ao m cc xs v hl h1 h2 h3 _ rfl).mono ?_;rintro e w' ⟨ra,rc,rfl,ho,hb⟩
 have h256:∀x∈(aC xs).1.digits,x<256:=by
  rcases nO xs with⟨_,k⟩|⟨d,k,k2,_⟩
  . rw[k];simp
  . rw[k]
    exact fun x hx=>by have:=(M.dY k2).dig x hx;omega
 exact⟨ra,_,rc,rfl,rfl,(OwnV.of_own ho h256).rd,hb⟩

theorem xR {bs:List Nat}{d d':M.Dec}(h:nQ bs d)(h':nQ bs d'):d=d':=by
 have:=h.1.symm.trans h'.1
 simpa using this

theorem JG {bs:List Nat}{d:M.Dec}(h:nQ bs d):0<fh d/\0<M.dec d.digits:=MZ h.2.1.dig h.2.2.2.1 h.2.1.head

theorem Q4 {F:M.Fm}{bs:List Nat}(hn:¬ ∃d,nQ bs d):peV F (aC bs)=.agg #[.int .u64 (M.hiN (seO F (aC bs)).1:Int),.int .u64 (M.loN (seO F (aC bs)).1:Int),.int .i64 (seO F (aC bs)).2.1,.int .i64 (seO F (aC bs)).2.2,.int .i64 0]:=by
 rcases nO bs with⟨h1,h2⟩|⟨d,h1,h2,h3⟩
 . unfold peV seO;rw[if_pos h1,if_pos h1];simp only[hi0,lo0]
   rfl
 . have hs:=M.dY h2;rw[h1];unfold peV seO peY peF seY;simp only[ne_eq,not_true_eq_false,if_false]
   by_cases k2:d.kind=2
   . simp only[if_pos k2]
   by_cases k3:d.kind=3
   . simp only[if_neg k2,if_pos k3]
   have hd0:d.digits.length=0:=by
    rcases M.fY h2 with x|x|x
    . rcases Nat.eq_zero_or_pos d.digits.length with e|e
      . exact e
      . exact absurd ⟨d,h1,hs,x.1,e,by omega,h3⟩ hn
    . omega
    . omega
   simp only[if_neg k2,if_neg k3,if_pos hd0]

theorem OW (w:World)(hm:Fmt w)(hF:Fol w)(hWd:Wds w)(f:Int)(m:Nat)(xs:List Nat)(W:Int)(hl:xs.length=m):∃(A B C E K A' B' C' E' K':Int)(s:Bool)(d:M.Dec)(s1 s2:Int),
 Fst w f m xs W A B C E K s/\Par w f m xs A' B' C' E' K'/\Scn m xs d s1 s2/\(s=true->A=A'/\B=B'/\C=C'/\E=E'/\K=K')/\
 (d.kind=1->d.digits.length<=19->0<=d.exp->d.exp<=27->64<=W->W<=128->s=true):=by
 have sX:=OL m xs hl
 by_cases hf:f<0\/4<=f
 . exact⟨_,_,_,_,_,_,_,_,_,_,true,_,_,_,⟨fun v ao cc _ _=>IC f hf ao m cc W v,_,_,_,_,_,fun v ao cc h1 h2 h3=>I3 f hf ao m cc xs W v hl h1 h2 h3⟩,⟨fun v ao cc _ _ _=>uH f hf ao m cc v,fun v ao cc _ _=>D7 f hf ao m cc v⟩,sX,fun _=>⟨rfl,rfl,rfl,rfl,rfl⟩,fun _ _ _ _ _ _=>rfl⟩
 obtain⟨k,rfl⟩:=Int.eq_ofNat_of_zero_le (show 0<=f by omega);have hk:k<4:=by omega
 have h:=M.iM k
 have iF:=fun(v:World)(ao:Option Addr)(cc:Nat)(hv:Below w.heap.size w v)(h3:RdB v ao xs)=>EH k hk ao m cc xs W v hl h3 (hm.below hv) (hF.below hv) (hWd.below hv)
 have sF:=fun(v:World)(ao:Option Addr)(cc:Nat)(h1:m<=cc)(h2:ao=none->cc=0)(h3:RdB v ao xs)=>FB k hk ao m cc xs W v hl h1 h2 h3
 have kS:=fun(v:World)(ao:Option Addr)(cc:Nat)(h1:m<=cc)(h2:ao=none->cc=0)(h3:RdB v ao xs)=>BV k hk ao m cc xs v hl h1 h2 h3
 have kI:=fun(v:World)(ao:Option Addr)(cc:Nat)(hv:Below w.heap.size w v)(h3:RdB v ao xs)=>BS k hk ao m cc xs v hl h3 (hm.below hv) (hF.below hv) (hWd.below hv)
 by_cases hn:∃d,nQ xs d
 . obtain⟨d,hd⟩:=hn
   have iF':=fun v ao cc hv h3=>(iF v ao cc hv h3).mono (fun e w' g=>show e=.returned (faV (M.fm k) d W)/\Below v.heap.size v w' from⟨by
    rcases g.1 with⟨x,_⟩|⟨d',hd',e'⟩
    . exact absurd ⟨d,hd⟩ x
    . rw[e',xR hd hd'],g.2⟩)
   have sF':=fun v ao cc h1 h2 h3=>(sF v ao cc h1 h2 h3).mono (fun e w' g=>show e=.returned (faV (M.fm k) d W)/\Below v.heap.size v w' from⟨by
    rcases g.1 with⟨x,_⟩|⟨d',hd',e'⟩
    . exact absurd ⟨d,hd⟩ x
    . rw[e',xR hd hd'],g.2⟩)
   clear iF sF;obtain⟨hh,hp⟩:=JG hd;obtain⟨e0,hs,k1,d0,d8,l8⟩:=id hd
   have eV:peV (M.fm k) (aC xs)=.agg #[.int .u64 (M.hiN (rY (M.fm k) d.neg (peN d) (peD d)):Int),.int .u64 (M.loN (rY (M.fm k) d.neg (peN d) (peD d)):Int),.int .i64 0,.int .i64 0,.int .i64 (rF (M.fm k) (peN d) (peD d))]:=by
    rw[e0];unfold peV peY peF;simp only[ne_eq,not_true_eq_false,if_false];simp only[if_neg (show ¬d.kind=2 by omega),if_neg (show ¬d.kind=3 by omega),if_neg (show ¬d.digits.length=0 by omega)]
   rw[eV]at kS kI;rw[e0]at sX
   by_cases hq:fIn (fk d) W/\fEq (M.fm k) d W
   . have hT:0<fT (fk d) W:=by
      have:=(yN (fk d) W hq.1).1;exact Nat.lt_of_lt_of_le (Nat.pow_pos (by omega)) this
     obtain⟨g1,g2⟩:=F8 h hs.dig hp hh hT hq.1 hq.2;rw[wT hq.1 hq.2]at iF' sF'
     exact⟨_,_,_,_,_,_,_,_,_,_,true,_,_,_,⟨iF',_,_,_,_,_,sF'⟩,⟨kS,kI⟩,sX,fun _=>⟨by rw[g1],by rw[g1],rfl,rfl,g2⟩,fun _ _ _ _ _ _=>rfl⟩
   . rw[tG hq]at iF' sF'
     exact⟨_,_,_,_,_,_,_,_,_,_,false,_,_,_,⟨iF',_,_,_,_,_,sF'⟩,⟨kS,kI⟩,sX,(fun e=>by cases e),fun _ a1 a2 a3 a4 a5=>absurd (GI (M.fm k) a1 a2 a3 a4 a5) hq⟩
 . have iF':=fun v ao cc hv h3=>(iF v ao cc hv h3).mono (fun e w' g=>show e=.returned (.agg #[.int .u64 (M.hiN (seO (M.fm k) (aC xs)).1:Int),.int .u64 (M.loN (seO (M.fm k) (aC xs)).1:Int),.int .i64 (seO (M.fm k) (aC xs)).2.1,.int .i64 (seO (M.fm k) (aC xs)).2.2,.int .i64 0,.bool true])/\Below v.heap.size v w' from⟨by
    rcases g.1 with⟨_,e'⟩|⟨d',hd',_⟩
    . exact e'
    . exact absurd ⟨d',hd'⟩ hn,g.2⟩)
   have sF':=fun v ao cc h1 h2 h3=>(sF v ao cc h1 h2 h3).mono (fun e w' g=>show e=.returned (.agg #[.int .u64 (M.hiN (seO (M.fm k) (aC xs)).1:Int),.int .u64 (M.loN (seO (M.fm k) (aC xs)).1:Int),.int .i64 (seO (M.fm k) (aC xs)).2.1,.int .i64 (seO (M.fm k) (aC xs)).2.2,.int .i64 0,.bool true])/\Below v.heap.size v w' from⟨by
    rcases g.1 with⟨_,e'⟩|⟨d',hd',_⟩
    . exact e'
    . exact absurd ⟨d',hd'⟩ hn,g.2⟩)
   rw[Q4 hn]at kS kI
   exact⟨_,_,_,_,_,_,_,_,_,_,true,_,_,_,⟨iF',_,_,_,_,_,sF'⟩,⟨kS,kI⟩,sX,fun _=>⟨rfl,rfl,rfl,rfl,rfl⟩,fun _ _ _ _ _ _=>rfl⟩

theorem lawFnFf (a0:Option Addr)(n c:Nat)(bs:List Nat)(w:World)(w0:InB w a0 n c bs)(hm:Fmt w)(hF:Fol w)(hWd:Wds w):
 Calls Tryz.prog 4 #[.slice a0 n c] w fun e w'=>e=.returned (.bool true)/\Below w.heap.size w w':=by
 obtain⟨hl,hc,hb⟩:=w0
 by_cases h1:n<=1048576
 . exact I2 a0 n c w h1 (EE a0 n c bs w hl h1 hb) (OW w hm hF hWd)
 . have h1':(1048576:Int)<(n:Int):=by omega
   go_enter Tryz.func4,Tryz.ntmps4;go_wp2_with fail;go_ret;exact⟨rfl,Below.refl _ _⟩

end Go.Proofs.YtfdgkleoaehjaaaGreatDoor
