import Derived.Test.YtfdgkleoaehjaaaGreatDoorfGAA
set_option maxHeartbeats 400000
namespace Go.Proofs.YtfdgkleoaehjaaaGreatDoor
open Go.RowKit
set_option linter.unusedVariables false
set_option maxRecDepth 100000

theorem nL (xs:List Nat)(hx:F64 xs):(L (V xs)).length<=xs.length:=M.tT (by omega) xs hx

theorem mV (xs:List Nat)(hx:F64 xs):xs.take (L (V xs)).length=L (V xs):=by
 have key:∀(k:Nat),k<=xs.length->(∀j,k<=j->j<xs.length->xs.getD j 0=0)->xs.take (L (V xs)).length=L (V xs):=by
  intro k
  induction k with
  |zero=>
   intro h hz;have:=M.lH (B:=18446744073709551616) (by omega) xs hx 0 h hz (Or.inl rfl);unfold L V;rw[<-this];simp
  |succ k ih=>
   intro h hz
   by_cases h0:xs.getD k 0=0
   . exact ih (by omega) (fun j h1 h2=>by
      by_cases e:j=k
      . subst e;exact h0
      . exact hz j (by omega) h2)
   . have:=M.lH (B:=18446744073709551616) (by omega) xs hx (k+1) h hz (Or.inr h0);unfold L V;rw[<-this];simp[h]
 exact key xs.length (Nat.le_refl _) (fun j h1 h2=>by omega)

theorem Rd.trim {w:World}{ao:Option Addr}{xs:List Nat}(h:Rd w ao xs)(hx:F64 xs):Rd w ao (L (V xs)):=by
 have:=h.take (L (V xs)).length
 rwa[mV xs hx]at this

theorem mZ (a:Nat)(m:Nat)(h:(D a).length<=m):a<4294967296^m:=
 Nat.lt_of_lt_of_le (M.j5 (by omega) a) (Nat.pow_le_pow_right (by omega) h)

theorem lZ (a k:Nat)(h:(D a).length<=k):X ((D a).take k)=a:=by rw[List.take_of_length_le h,X_D]

def Ret (w w':World)(e:Ending)(r:List Nat):Prop:=
 ∃ao cap,e=.returned (.slice ao r.length cap)/\w'.ownsRow w.heap.size 25 1 (.slice ao r.length cap) r.length (U r)/\Below w.heap.size w w'

theorem Ret.nil {w w':World}(h:Below w.heap.size w w'):Ret w w' (.returned (.slice none 0 0)) []:=⟨none,0,rfl,World.ownsRow_nil _ _ _ _,h⟩

theorem Ret.later {w0 w w':World}{e:Ending}{r:List Nat}(h:Ret w w' e r)(hb:Below w0.heap.size w0 w):Ret w0 w' e r:=by
 obtain⟨ao,cap,he,ho,hb'⟩:=h;exact⟨ao,cap,he,aM ho hb.size,hb.trans (hb'.mono hb.size)⟩

theorem Blk.ownPre {w:World}{base g n c:Nat}{zs:List Nat}(h:Blk w g zs)(hb:base<=g)(hn:n<=zs.length)(hc:zs.length=c)(hm:c<=maxLen):w.ownsRow base 25 1 (.slice (some ⟨g,0,none⟩) n c) n (U (zs.take n)):=by
 subst hc;refine⟨by rw[dV];simp;omega,.inr ⟨g,zs.length,(U zs).toArray,rfl,hb,h,hn,hm,by simp[U],?_⟩⟩
 simp[U,List.map_take]

theorem M.len_of_lt {B:Nat}(hB:1<B)(a K:Nat)(h:a<B^K):(M.dig B a).length<=K:=by
 rcases Nat.lt_or_ge K (M.dig B a).length with h1|h1
 . have h8:0<a:=by
    rcases Nat.eq_zero_or_pos a with e|e
    . rw[e]at h1;simp[M.aH]at h1
    . exact e
   have h9:=M.oZ hB _ h8;have h10:B^K<=B^((M.dig B a).length-1):=Nat.pow_le_pow_right (by omega) (by omega);omega
 . exact h1

theorem sZ (a:Nat)(m:Nat)(h:(L a).length<=m):a<18446744073709551616^m:=
 Nat.lt_of_lt_of_le (M.j5 (by omega) a) (Nat.pow_le_pow_right (by omega) h)

theorem sL {w:World}{base n cap:Nat}{ao:Option Addr}{xs:List Value}(h:w.ownsRow base 25 1 (.slice ao n cap) n xs)(hn:0<n):∃g,ao=some ⟨g,0,none⟩/\base<=g:=by
 rcases h.2 with⟨he,h0⟩|⟨g,cap',cur,he,hb,_⟩
 . omega
 . simp only[Value.slice.injEq]at he;exact⟨g,he.1,hb⟩

def NQ (k n:Nat):List Nat:=List.range' k n

theorem mK (ao:Option Addr)(n cap:Nat)(a:Nat)(w:World)(hl:(D a).length=n)(hn:n<=4194304)(hr:Rd w ao (D a)):
 Calls Tryz.prog 39 #[.slice ao n cap] w fun e w'=>∃ao' cap',e=.returned (.slice ao' (L a).length cap')/\w'.ownsRow w.heap.size 25 1 (.slice ao' (L a).length cap') (L a).length (U (L a))/\Below w.heap.size w w':=by
 obtain⟨i0,hi,hz0,hz1,hz2⟩:=info_parts Tryz.infoU;have hx:=iD a;go_enter Tryz.func39,Tryz.ntmps39
 go_wp2
 go_loopw [3,4] (fun v i wr=>∃k:Nat,2*k<=n+1/\i=.int .i64 (2*k)/\wr.ownsRow w.heap.size 25 1 v k (U (M.pk 4294967296 (D a) k))/\Below w.heap.size w wr) (fun _ i _=>n+2-(intOf i).toNat)
 case atStart=>exact⟨0,by omega,rfl,World.ownsRow_nil _ _ _ _,Below.refl _ _⟩
 case round=>
  obtain⟨k,hk,rfl,hown,hbl⟩:=hrel
  by_cases hlt:2*k<n
  . obtain⟨b,off,hao,hc⟩:=(hr.below hbl) (by omega);have hck:=hc (2*k) (by omega);have hx1:=hx.get (2*k);obtain⟨x,hxx⟩:∃x:Nat,x=(D a).getD (2*k) 0:=⟨_,rfl⟩;rw[<-hxx]at hck hx1;have HX:=hid hxx;clear hxx;have hx2:=hx.get (2*k+1);obtain⟨y,hyy⟩:∃y:Nat,y=(D a).getD (2*k+1) 0:=⟨_,rfl⟩
    by_cases hlt2:2*k+1<n
    . have hck2:=hc (2*k+1) (by omega);rw[<-hyy]at hck2 hx2;have HY:=hid hyy;clear hyy;clear hc;have hor:=vX x y hx1 hx2
      go_wp2_with (at_builtin;refine wpList_append_own _ rfl _ _ 56 rfl w.heap.size 25 i0 (.int .u64 0) 1 8 Tryz.underlying56 hi hz0 hz1 hz2 rfl (by decide) _ _ _ rfl (hown.alloc _) ⟨wr.heap.size,0,none⟩ 1 1 (U [x+y*4294967296]) rfl rfl ?c1 ?c2 ?c3 ?c4 ?c5 ?_)
      case c1=>
       intro j u hj
       match j,hj with
       |0,hj=>simp[U]at hj;subst hj;simp[Addr.add]
      case c2=>exact i7 _
      case c3=>unfold maxLen;omega
      case c4=>omega
      case c5=>have:=hbl.size;simp;omega
      intro v' w1 hown' hgrow hnn;clear hnn
      have hb1:Below w.heap.size w w1:=(hbl.alloc hbl.size _).grown hgrow (by have:=hbl.size;simp;omega) (fun k' hk'=>(hown.lt k' hk').1)
      clear hown hgrow
      go_wp2
      go_roundw
      case rel=>
       have R:∃k1:Nat,2*k1<=n+1/\Value.int .i64 (2*(k:Int)+2)=.int .i64 (2*(k1:Int))/\w1.ownsRow w.heap.size 25 1 v' k1 (U (M.pk 4294967296 (D a) k1))/\Below w.heap.size w w1:=by
        refine⟨k+1,by omega,by go_num,?_,hb1⟩;rw[M.C5,dH,<-HX.out,<-HY.out];exact hown'
       first|exact R|((repeat apply Exists.intro);exact⟨R,by rw[hao]⟩)
      case measure=>simp[intOf];omega
    . have hy0:y=0:=by rw[hyy,iZ _ _ (by omega)]
      have HY:=hid hyy;clear hyy hx2;clear hc;have HY0:=hid hy0;clear hy0
      go_wp2_with (at_builtin;refine wpList_append_own _ rfl _ _ 56 rfl w.heap.size 25 i0 (.int .u64 0) 1 8 Tryz.underlying56 hi hz0 hz1 hz2 rfl (by decide) _ _ _ rfl (hown.alloc _) ⟨wr.heap.size,0,none⟩ 1 1 (U [x]) rfl rfl ?c1 ?c2 ?c3 ?c4 ?c5 ?_)
      case c1=>
       intro j u hj
       match j,hj with
       |0,hj=>simp[U]at hj;subst hj;simp[Addr.add]
      case c2=>exact i7 _
      case c3=>unfold maxLen;omega
      case c4=>omega
      case c5=>have:=hbl.size;simp;omega
      intro v' w1 hown' hgrow hnn;clear hnn
      have hb1:Below w.heap.size w w1:=(hbl.alloc hbl.size _).grown hgrow (by have:=hbl.size;simp;omega) (fun k' hk'=>(hown.lt k' hk').1)
      clear hown hgrow
      go_wp2
      go_roundw
      case rel=>
       have R:∃k1:Nat,2*k1<=n+1/\Value.int .i64 (2*(k:Int)+2)=.int .i64 (2*(k1:Int))/\w1.ownsRow w.heap.size 25 1 v' k1 (U (M.pk 4294967296 (D a) k1))/\Below w.heap.size w w1:=by
        refine⟨k+1,by omega,by go_num,?_,hb1⟩;rw[M.C5,dH,<-HX.out,<-HY.out,HY0.out];exact hown'
       first|exact R|((repeat apply Exists.intro);exact⟨R,by rw[hao]⟩)
      case measure=>simp[intOf];omega
  . have e:k=(n+1)/2:=by omega
    have hfin:M.pk 4294967296 (D a) k=L a:=by
     rw[e,<-hl];exact M.QA (C:=4294967296) (by omega) a
    rw[hfin]at hown;have hlen:=hown.1;rw[dV,Nat.mul_one]at hlen;have hv:=fF hown;obtain⟨ao1,cap1,hv⟩:=hv;rw[hv]at hown;have HO:=hid hown;clear hown;have HV:=hid hv;clear hv;have HLen:=hid hlen;clear hlen;have HF:=hid hfin;clear hfin
    go_wp2
    go_ret;rw[HLen.out];exact⟨ao1,cap1,by rw[<-HV.out];rfl,HO.out,hbl⟩

end Go.Proofs.YtfdgkleoaehjaaaGreatDoor
namespace Go.Proofs.YtfdgkleoaehjaaaGreatDoor.M
set_option linter.unusedVariables false
set_option maxRecDepth 100000

def seg (xs:List Nat)(off n:Nat):List Nat:=(xs.drop off).take n

theorem cZ (xs:List Nat)(off n:Nat)(h:off+n<=xs.length):(seg xs off n).length=n:=by simp[seg];omega

theorem M3 (xs:List Nat)(off n k:Nat)(hk:k<n):(seg xs off n).getD k 0=xs.getD (off+k) 0:=by
 simp[seg,List.getD_eq_getElem?_getD,hk]

theorem qU (xs:List Nat)(n:Nat)(h:xs.length=n):seg xs 0 n=xs:=by simp[seg,<-h]

theorem wJ {B:Nat}{xs:List Nat}(h:∀x∈xs,x<B)(off n:Nat):∀x∈seg xs off n,x<B:=fun x hx=>h x (List.mem_of_mem_drop (List.mem_of_mem_take hx))

theorem jU (B:Nat)(k:Nat):∀(xs:List Nat)(x:Nat),k<xs.length->val B (xs.set k x)+B^k*xs.getD k 0=val B xs+B^k*x:=by
 induction k with
 |zero=>
  intro xs x h
  cases xs with
  |nil=>simp at h
  |cons y r=>simp[val];omega
 |succ k ih=>
  intro xs x h
  cases xs with
  |nil=>simp at h
  |cons y r=>
   have:=ih r x (by simpa using h);simp only[List.set_cons_succ,val,List.getD_cons_succ,Nat.pow_succ];have e:B*(val B (r.set k x)+B^k*r.getD k 0)=B*(val B r+B^k*x):=by rw[this]
   simp only[Nat.mul_add]at e;rw[Nat.mul_comm (B^k) B,Nat.mul_assoc,Nat.mul_assoc];omega

theorem NL (xs:List Nat)(off n k x:Nat)(hk:k<n):seg (xs.set (off+k) x) off n=(seg xs off n).set k x:=by
 unfold seg;rw[List.drop_set,if_neg (by omega),List.take_set,Nat.add_sub_cancel_left]

theorem iL (B:Nat)(xs:List Nat)(off n k x:Nat)(hk:k<n)(hl:off+n<=xs.length):
 val B (seg (xs.set (off+k) x) off n)+B^k*xs.getD (off+k) 0=val B (seg xs off n)+B^k*x:=by
 rw[NL xs off n k x hk];have:=jU B k (seg xs off n) x (by rw[cZ xs off n hl];exact hk)
 rwa[M3 xs off n k hk]at this

theorem bO (xs:List Nat)(i j x:Nat)(h:i≠j):(xs.set i x).getD j 0=xs.getD j 0:=by
 simp[List.getD_eq_getElem?_getD,h]

theorem bQ (xs:List Nat)(i x:Nat)(h:i<xs.length):(xs.set i x).getD i 0=x:=by
 simp[List.getD_eq_getElem?_getD,h]

structure Wrote (B:Nat)(zs:List Nat)(off n:Nat)(cur:List Nat):Prop where
 len:cur.length=zs.length
 lt:∀x∈cur,x<B
 out:∀j,(j<off\/off+n<=j)->cur.getD j 0=zs.getD j 0

theorem Wrote.refl {B:Nat}{zs:List Nat}(h:∀x∈zs,x<B)(off n:Nat):Wrote B zs off n zs:=⟨rfl,h,fun _ _=>rfl⟩

theorem Wrote.set {B:Nat}{zs cur:List Nat}{off n:Nat}(h:Wrote B zs off n cur)(k x:Nat)(hk:k<n)(hx:x<B):Wrote B zs off n (cur.set (off+k) x):=by
 refine⟨by rw[List.length_set];exact h.len,fun y hy=>?_,fun j hj=>?_⟩
 . rcases List.mem_or_eq_of_mem_set hy with hy|rfl
   . exact h.lt y hy
   . exact hx
 . rw[bO _ _ _ _ (by omega)];exact h.out j hj

theorem yI {V V' V0 T c c' P B x y o:Nat}(h:V+c*P=V0+T)(hv:V'+P*x=V+P*o)(hs:o+B*c'=x+y+c):V'+c'*(P*B)=V0+(T+P*y):=by
 have e:P*(o+B*c')=P*(x+y+c):=by rw[hs]
 simp only[Nat.mul_add]at e;rw[Nat.mul_comm c' (P*B),Nat.mul_assoc];rw[Nat.mul_comm c P]at h;omega

end Go.Proofs.YtfdgkleoaehjaaaGreatDoor.M
namespace Go.Proofs.YtfdgkleoaehjaaaGreatDoor
open Go.RowKit
set_option linter.unusedVariables false
set_option maxRecDepth 100000

theorem iH (n:Nat):IntKind.u64.wrap (n:Int)=((n%18446744073709551616:Nat):Int):=by
 simp only[IntKind.wrap_u64];omega

theorem fO (x y p:Nat)(hp:p=(x+y)%18446744073709551616):IntKind.u64.wrap ((x:Int)+(y:Int))=(p:Int):=by
 have:=iH (x+y);rw[<-hp]at this;rw[<-this];congr 1

theorem Rd.other {w w':World}{bo:Option Addr}{ys:List Nat}{g:Nat}(h:Rd w bo ys)(hg:w.grownBy w' (some g))(hsep:∀b2 o2,bo=some ⟨b2,o2,none⟩->b2≠g):Rd w' bo ys:=by
 intro hp;obtain⟨b,off,e,hc⟩:=h hp
 exact⟨b,off,e,fun i hi=>hg.cell (hc i hi) (by simpa using hsep b off e)⟩

theorem aA {a b c:World}{row:Option Nat}(h:a.grownBy b row)(k:b.grownBy c row):a.grownBy c row:=
 ⟨k.os.trans h.os,k.tape.trans h.tape,k.output.trans h.output,Nat.le_trans h.size k.size,fun i hi hne=>(k.block i (Nat.lt_of_lt_of_le hi h.size) hne).trans (h.block i hi hne)⟩

theorem aD (w:World)(g i:Nat)(v:Value):w.grownBy (w.setCell ⟨g,i,none⟩ v) (some g):=
 ⟨rfl,rfl,rfl,by simp[World.setCell],fun k _ hk=>Below.heap_setCell _ _ _ _ (fun e=>hk (by simp[e]))⟩

theorem cU (w:World)(q:Nat)(row:Option Nat):w.grownBy (w.drewN q) row:=⟨rfl,rfl,rfl,Nat.le_refl _,fun _ _ _=>rfl⟩

theorem eL (a b:Int)(w:World)(r:Nat)(hr:r=if a<b then 1 else 0):
 Calls Tryz.prog 106 #[.int .u64 a,.int .u64 b] w fun e w'=>e=.returned (.int .u64 (r:Int))/\w'=w:=by
 by_cases h:a<b
 . have:r=1:=by rw[hr,if_pos h]
   subst this;clear hr;go_enter Tryz.func106,Tryz.ntmps106
   go_wp2
   go_ret;exact⟨rfl,rfl⟩
 . have:r=0:=by rw[hr,if_neg h]
   subst this;clear hr;go_enter Tryz.func106,Tryz.ntmps106
   go_wp2
   go_ret;exact⟨rfl,rfl⟩

def rdB (bs:List Nat)(i:Nat):Nat:=bs.getD i 0

def adv (bs:List Nat)(i:Nat):Nat:=if i<bs.length then i+1 else i

def RdB (w:World)(ao:Option Addr)(bs:List Nat):Prop:=
 (∀x∈bs,x<256)/\(0<bs.length->∃b off,ao=some ⟨b,off,none⟩/\∀i,i<bs.length->w.cell? ⟨b,off+i,none⟩=some (.int .u8 ((bs.getD i 0:Nat):Int)))

theorem RdB.below {w w':World}{ao:Option Addr}{xs:List Nat}(h:RdB w ao xs)(hb:Below w.heap.size w w'):RdB w' ao xs:=by
 refine⟨h.1,fun hp=>?_⟩
 obtain⟨b,off,e,hc⟩:=h.2 hp
 refine⟨b,off,e,fun i hi=>?_⟩
 exact(hb.cell (p:=⟨b,off+i,none⟩) (World.block_lt_of_cell? w _ (hc i hi))).trans (hc i hi)

theorem vZ {w:World}{ao:Option Addr}{bs:List Nat}(h:RdB w ao bs)(i:Nat):rdB bs i<256:=M.bG (by omega) h.1 i

theorem RdB.grown {w w':World}{ao:Option Addr}{bs:List Nat}{g:Nat}(h:RdB w ao bs)(hg:w.grownBy w' (some g))(hsep:0<bs.length->∀b2 o2,ao=some ⟨b2,o2,none⟩->b2≠g):RdB w' ao bs:=by
 refine⟨h.1,fun hp=>?_⟩
 obtain⟨b,off,e,hc⟩:=h.2 hp
 exact⟨b,off,e,fun i hi=>hg.cell (hc i hi) (by simpa using hsep hp b off e)⟩

def InB (w:World)(a:Option Addr)(len cap:Nat)(bs:List Nat):Prop:=bs.length=len/\len<=cap/\RdB w a bs

def IsRdr (w:World)(g:Nat)(ao:Option Addr)(n c i:Nat):Prop:=w.heap[g]? =some (.cells #[.slice ao n c,.int .i64 (i:Int)] 50 (0,0))

theorem IsRdr.lt {w:World}{g:Nat}{ao:Option Addr}{n c i:Nat}(h:IsRdr w g ao n c i):g<w.heap.size:=(Array.getElem?_eq_some_iff.1 h).1

theorem IsRdr.c0 {w:World}{g:Nat}{ao:Option Addr}{n c i:Nat}(h:IsRdr w g ao n c i):w.cell? ⟨g,0,none⟩=some (.slice ao n c):=by
 rw[cell_of_row w g 0 _ _ (0,0) h];rfl

theorem IsRdr.c1 {w:World}{g:Nat}{ao:Option Addr}{n c i:Nat}(h:IsRdr w g ao n c i):w.cell? ⟨g,1,none⟩=some (.int .i64 (i:Int)):=by
 rw[cell_of_row w g 1 _ _ (0,0) h];rfl

theorem IsRdr.f1 {w:World}{g:Nat}{ao:Option Addr}{n c i:Nat}(h:IsRdr w g ao n c i):w.frozen? ⟨g,1,none⟩=false:=frozen_of_row w g 1 _ _ h

theorem IsRdr.set {w:World}{g:Nat}{ao:Option Addr}{n c i:Nat}(h:IsRdr w g ao n c i)(j:Nat)(v:Int)(hv:v=(j:Int)):IsRdr (w.setCell ⟨g,1,none⟩ (.int .i64 v)) g ao n c j:=by
 subst hv;unfold IsRdr;rw[heap_setCell_same w g 1 _ _ _ h]
 rfl

theorem IsRdr.drewN {w:World}{g:Nat}{ao:Option Addr}{n c i:Nat}(h:IsRdr w g ao n c i)(q:Nat):IsRdr (w.drewN q) g ao n c i:=h

theorem IsRdr.keep {w w':World}{g:Nat}{ao:Option Addr}{n c i:Nat}(h:IsRdr w g ao n c i)(hb:Below w.heap.size w w'):IsRdr w' g ao n c i:=(hb.block g h.lt).trans h

theorem IsRdr.grown {w w':World}{g:Nat}{ao:Option Addr}{n c i:Nat}{row:Option Nat}(h:IsRdr w g ao n c i)(hb:w.grownBy w' row)(hr:some g≠row):IsRdr w' g ao n c i:=(hb.block g h.lt hr).trans h

theorem rW (g:Nat)(ao:Option Addr)(n c i:Nat)(bs:List Nat)(w:World)(hl:bs.length=n)(hn:n<=1048576)(hi:i<=n)(hR:IsRdr w g ao n c i)(hb:RdB w ao bs)(x:Nat)(hx:x=rdB bs i):
 Calls Tryz.prog 44 #[.pointer (some ⟨g,0,none⟩)] w fun e w'=>e=.returned (.int .i64 (x:Int))/\IsRdr w' g ao n c (adv bs i)/\w.grownBy w' (some g):=by
 have h0:=hR.c0;have h1:=hR.c1;have hf:=hR.f1
 by_cases hlt:i<n
 . have ha:adv bs i=i+1:=by unfold adv;rw[if_pos (by omega)]
   rw[ha];obtain⟨b,off,hao,hcl⟩:=hb.2 (by omega);have hck:=hcl i (by omega);rw[show bs.getD i 0=x from hx.symm]at hck;have hx1:x<256:=by rw[hx];exact vZ hb i
   clear hcl;have HX:=hid hx;clear hx ha;have hge:¬(n:Int)<=(i:Int):=by omega
   have hlt':(i:Int)<(n:Int):=by omega
   have HR:=hid hR;clear hR;go_enter Tryz.func44,Tryz.ntmps44
   go_wp2
   go_quiet(fail)
   go_wp2
   generalize hwy:w.drewN nq=wy;have hR1:IsRdr wy g ao n c i:=by rw[<-hwy];exact HR.out
   have h0':=hR1.c0;have h1':=hR1.c1;have hck':wy.cell? ⟨b,off+i,none⟩=some (.int .u8 (x:Int)):=by rw[<-hwy];exact hck
   have hgy:w.grownBy wy (some g):=by rw[<-hwy];exact cU _ _ _
   have HR1:=hid hR1;have HGY:=hid hgy;clear hwy h0 h1 hck hR1 hgy hf HR
   go_quiet(fail)
   generalize hwz:wy.drewN nq=wz;have hR2:IsRdr wz g ao n c i:=by rw[<-hwz];exact HR1.out
   have h1'':=hR2.c1;have hf'':=hR2.f1;have hgz:w.grownBy wz (some g):=by rw[<-hwz];exact aA HGY.out (cU _ _ _)
   have HR2:=hid hR2;have HGZ:=hid hgz;clear hwz h0' h1' hck' hR2 hgz
   go_wp2
   go_ret;exact⟨rfl,HR2.out.set (i+1) _ (by omega),aA HGZ.out (aD _ _ _ _)⟩
 . have ha:adv bs i=i:=by unfold adv;rw[if_neg (by omega)]
   have hx0:x=0:=by rw[hx];unfold rdB;exact iZ _ _ (by omega)
   rw[ha];subst hx0;clear hx ha;have hge:(n:Int)<=(i:Int):=by omega
   have HR:=hid hR;clear hR;go_enter Tryz.func44,Tryz.ntmps44
   go_wp2
   go_quiet(fail)
   go_wp2
   go_ret;exact⟨rfl,HR.out.drewN _,cU _ _ _⟩

def fN (bs:List Nat)(i:Nat):Nat->Nat×Nat
 |0=>(0,i)
 |k+1=>((fN bs i k).1*256+rdB bs (fN bs i k).2,adv bs (fN bs i k).2)

theorem yZ (bs:List Nat)(i n:Nat)(hl:bs.length=n)(hi:i<=n)(k:Nat):(fN bs i k).2<=n:=by
 induction k with
 |zero=>exact hi
 |succ k ih=>simp only[fN,adv];split<;>omega

theorem yE (bs:List Nat)(i:Nat)(hb:∀x∈bs,x<256)(k:Nat):(fN bs i k).1<256^k:=by
 induction k with
 |zero=>simp[fN]
 |succ k ih=>
  simp only[fN,Nat.pow_succ];have:rdB bs (fN bs i k).2<256:=M.bG (by omega) hb _;omega

theorem K8 (g:Nat)(ao:Option Addr)(n c i:Nat)(bs:List Nat)(w:World)(hl:bs.length=n)(hn:n<=1048576)(hi:i<=n)(hR:IsRdr w g ao n c i)(hb:RdB w ao bs)(hsep:0<bs.length->∀b2 o2,ao=some ⟨b2,o2,none⟩->b2≠g)(x j:Nat)(hx:x=(fN bs i 8).1)(hj:j=(fN bs i 8).2):
 Calls Tryz.prog 118 #[.pointer (some ⟨g,0,none⟩)] w fun e w'=>e=.returned (.int .u64 (x:Int))/\IsRdr w' g ao n c j/\w.grownBy w' (some g):=by
 have HX:=hid hx;have HJ:=hid hj;clear hx hj;go_enter Tryz.func118,Tryz.ntmps118
 go_wp2
 go_loopw [3,4] (fun v q wr=>∃k:Nat,k<=8/\q=.int .i64 k/\v=.int .u64 ((fN bs i k).1:Int)/\IsRdr wr g ao n c (fN bs i k).2/\w.grownBy wr (some g)) (fun _ q _=>8-(intOf q).toNat)
 case atStart=>exact⟨0,by omega,rfl,rfl,hR,World.grownBy.refl _ _⟩
 case round=>
  obtain⟨k,hk,rfl,rfl,hRk,hg⟩:=hrel
  by_cases hlt:k<8
  . have hlt':(k:Int)<8:=by omega
    have hle:=yZ bs i n hl hi k;have hxl:=yE bs i hb.1 k;have hp:256^k<=256^7:=Nat.pow_le_pow_right (by omega) (by omega);obtain⟨y,ey⟩:∃y:Nat,y=(fN bs i k).1:=⟨_,rfl⟩;obtain⟨p,ep⟩:∃p:Nat,p=(fN bs i k).2:=⟨_,rfl⟩;rw[<-ey]at hxl|-;rw[<-ep]at hRk hle;obtain⟨z,ez⟩:∃z:Nat,z=rdB bs p:=⟨_,rfl⟩;have hzb:z<256:=by rw[ez];exact vZ hb p
    have hyb:y<72057594037927936:=by omega
    have hor:bits BinOp.or IntKind.u64 ((y:Int)*256) (z:Int)=((y*256+z:Nat):Int):=by
     have h1:=kG z y 8 (by omega);have e:(y:Int)*256=((y*256:Nat):Int):=by omega
     rw[e,u64_or_nat _ _ (by omega) (by omega),Nat.or_comm];rw[show(2:Nat)^8=256 from rfl]at h1;rw[h1,Nat.add_comm]
    obtain⟨t,et⟩:∃t:Nat,t=y*256+z:=⟨_,rfl⟩;rw[<-et]at hor;have EY:=hid ey;have EP:=hid ep;have EZ:=hid ez;have ET:=hid et;clear ey ep ez et hxl hp;go_wp2_with fail;refine(rW g ao n c p bs _ hl hn hle hRk (hb.grown hg hsep) z EZ.out).mono ?_;rintro e w1 ⟨rfl,hR1,hg1⟩;have hgw:=aA hg hg1;clear hRk hg hg1;have HR1:=hid hR1;have HG:=hid hgw;clear hR1 hgw;go_wp2_with fail;go_roundw
    case rel=>
     have R:∃k1:Nat,k1<=8/\Value.int .i64 ((k:Int)+1)=.int .i64 k1/\Value.int .u64 (t:Int)=.int .u64 ((fN bs i k1).1:Int)/\IsRdr w1 g ao n c (fN bs i k1).2/\w.grownBy w1 (some g):=by
      refine⟨k+1,by omega,by go_num,?_,?_,HG.out⟩
      . rw[ET.out,EZ.out];simp only[fN];rw[<-EY.out,<-EP.out]
      . simp only[fN];rw[<-EP.out];exact HR1.out
     first|exact R|((repeat apply Exists.intro);exact⟨R,rfl⟩)
    case measure=>simp[intOf];omega
  . have e:k=8:=by omega
    subst e;have hlt':¬((8:Nat):Int)<8:=by omega
    rw[<-HX.out];rw[<-HJ.out]at hRk;have HR:=hid hRk;have HG:=hid hg;clear hRk hg;go_wp2_with fail;go_ret;exact⟨rfl,HR.out,HG.out⟩

theorem DA {W w1:World}(hb:Below W.heap.size W w1):(∀b o,b<W.heap.size->w1.cell? ⟨b,o,none⟩=W.cell? ⟨b,o,none⟩)/\(∀b o,b<W.heap.size->w1.frozen? ⟨b,o,none⟩=W.frozen? ⟨b,o,none⟩):=
 ⟨fun b o h=>hb.cell (p:=⟨b,o,none⟩) h,fun b o h=>hb.frozen (p:=⟨b,o,none⟩) h⟩

end Go.Proofs.YtfdgkleoaehjaaaGreatDoor
namespace Go.Proofs.YtfdgkleoaehjaaaGreatDoor.M
set_option linter.unusedVariables false
set_option maxRecDepth 100000

structure Fm where
 p:Nat
 e:Nat
 x:Bool

def Fm.fb (F:Fm):Nat:=if F.x then F.p else F.p-1

def Fm.wd (F:Fm):Nat:=F.fb+F.e+1

def Fm.emax (F:Fm):Nat:=2^(F.e-1)-1

def Fm.qmin (F:Fm):Int:=2-(F.emax:Int)-(F.p:Int)

def Fm.lead (F:Fm):Nat:=2^(F.p-1)

def Fm.top (F:Fm):Nat:=2^F.e-1

structure Fm.Ok (F:Fm):Prop where
 p1:24<=F.p
 p2:F.p<=113
 e1:8<=F.e
 e2:F.e<=15
 w:F.wd<=128

structure Pt where
 c:Int
 n:Bool
 s:Nat
 q:Int

theorem Pt.ext' {a b:Pt}(h1:a.c=b.c)(h2:a.n=b.n)(h3:a.s=b.s)(h4:a.q=b.q):a=b:=by
 cases a;cases b;simp at*;exact⟨h1,h2,h3,h4⟩

def Fm.fld (F:Fm)(X:Nat):Nat:=X/2^F.fb%2^F.e

def Fm.sgn (F:Fm)(X:Nat):Nat:=X/2^F.fb/2^F.e

def Fm.sig (F:Fm)(X:Nat):Nat:=if F.x=false/\0<F.fld X then X%2^F.fb+F.lead else X%2^F.fb

def Fm.bad (F:Fm)(X:Nat):Prop:=1<F.sgn X\/ ¬(F.lead<=F.sig X↔0<F.fld X)

instance (F:Fm) (X:Nat):Decidable (F.bad X):=by unfold Fm.bad;infer_instance

def Fm.upk (F:Fm)(X:Nat):Pt:=
 if F.bad X then⟨0,false,0,0⟩
 else if F.fld X=F.top then(if F.sig X=F.lead then⟨4,decide (F.sgn X=1),0,0⟩else⟨5,false,0,0⟩)
 else if 0<F.fld X then⟨3,decide (F.sgn X=1),F.sig X,(F.fld X:Int)-F.emax-F.p+1⟩
 else if F.sig X=0 then⟨1,decide (F.sgn X=1),0,0⟩
 else⟨2,decide (F.sgn X=1),F.sig X,F.qmin⟩

def Fm.word (F:Fm)(n:Bool)(fld sig:Nat):Nat:=
 fld*2^F.fb+(if F.x=false/\0<fld then sig-F.lead else sig)+(if n then 2^(F.wd-1)else 0)

theorem Fm.Ok.leadPos {F:Fm}(h:F.Ok):0<F.lead:=Nat.pow_pos (by omega)

theorem Fm.Ok.ad {F:Fm}(h:F.Ok):2^F.fb=if F.x then 2*F.lead else F.lead:=by
 unfold Fm.fb Fm.lead;have:=h.p1;cases F.x
 . rfl
 . simp only[if_true];rw[show F.p=(F.p-1)+1 by omega,Nat.pow_succ,Nat.add_sub_cancel,Nat.mul_comm]

theorem Fm.Ok.top2 {F:Fm}(h:F.Ok):F.top=2*F.emax+1/\2^F.e=F.top+1/\127<=F.emax/\F.emax<=16383:=by
 have h1:=h.e1;have h2:=h.e2
 have e:2^F.e=2*2^(F.e-1):=by
  rw[Nat.mul_comm,<-Nat.pow_succ];congr 1;omega
 have a:2^7<=2^(F.e-1):=Nat.pow_le_pow_right (by omega) (by omega);have b:2^(F.e-1)<=2^14:=Nat.pow_le_pow_right (by omega) (by omega);unfold Fm.top Fm.emax;omega

theorem Fm.Ok.width {F:Fm}(h:F.Ok):2^F.wd=2^F.fb*2^F.e*2/\2^(F.wd-1)=2^F.fb*2^F.e/\2^F.wd<=2^128:=by
 refine⟨?_,?_,Nat.pow_le_pow_right (by omega) h.w⟩
 . unfold Fm.wd;rw[Nat.pow_succ,Nat.pow_add]
 . unfold Fm.wd;rw[Nat.add_sub_cancel,Nat.pow_add]

theorem Fm.Ok.frac {F:Fm}(h:F.Ok)(fld sig:Nat)(h3:sig<2*F.lead)(h4:F.lead<=sig↔0<fld):
 (if F.x=false/\0<fld then sig-F.lead else sig)<2^F.fb:=by
 rw[h.ad];have:=h.leadPos;rcases F with⟨p,e,x⟩;cases x
 . by_cases h5:0<fld
   . simp[h5]at*;omega
   . simp[h5]at*;omega
 . simp;exact h3

theorem Fm.Ok.fields {F:Fm}(h:F.Ok)(n:Bool)(fld sig:Nat)(h2:fld<=F.top)(h3:sig<2*F.lead)(h4:F.lead<=sig↔0<fld):
 F.fld (F.word n fld sig)=fld/\F.sgn (F.word n fld sig)=n.toNat/\F.sig (F.word n fld sig)=sig/\F.word n fld sig<2^F.wd:=by
 have hf:=h.frac fld sig h3 h4;have ht:=h.top2;have hA:0<2^F.fb:=Nat.pow_pos (by omega);have hw:=h.width;obtain⟨fr,hfr⟩:∃fr,fr=(if F.x=false/\0<fld then sig-F.lead else sig):=⟨_,rfl⟩;rw[<-hfr]at hf
 have e:F.word n fld sig=(n.toNat*2^F.e+fld)*2^F.fb+fr:=by
  unfold Fm.word;rw[<-hfr,hw.2.1,Nat.add_mul];cases n
  . simp
  . simp[Nat.mul_comm];omega
 have e1:F.word n fld sig/2^F.fb=n.toNat*2^F.e+fld:=by
  rw[e,Nat.mul_comm,Nat.mul_add_div hA,Nat.div_eq_of_lt hf,Nat.add_zero]
 have e2:F.word n fld sig%2^F.fb=fr:=by
  rw[e,Nat.mul_comm,Nat.mul_add_mod,Nat.mod_eq_of_lt hf]
 have e3:F.fld (F.word n fld sig)=fld:=by
  unfold Fm.fld;rw[e1,Nat.mul_comm,Nat.mul_add_mod,Nat.mod_eq_of_lt (by omega)]
 refine⟨e3,?_,?_,?_⟩
 . unfold Fm.sgn;rw[e1,Nat.mul_comm,Nat.mul_add_div (by omega),Nat.div_eq_of_lt (by omega),Nat.add_zero]
 . unfold Fm.sig;rw[e3,e2,hfr]
   by_cases h5:F.x=false/\0<fld
   . simp only[h5,and_self,if_true];have:=h4.2 h5.2;omega
   . simp only[h5,if_false]
 . rw[e,hw.1]
   have hn:n.toNat<=1:=by cases n<;>simp
   have h7:n.toNat*2^F.e<=1*2^F.e:=Nat.mul_le_mul_right _ hn;have h6:(n.toNat*2^F.e+fld+1)*2^F.fb<=(2^F.e*2)*2^F.fb:=Nat.mul_le_mul_right _ (by omega);rw[Nat.add_mul _ 1]at h6;have h8:2^F.e*2*2^F.fb=2^F.fb*2^F.e*2:=by rw[Nat.mul_comm (2^F.e*2),Nat.mul_assoc]
   omega

def Fm.Proper (F:Fm)(t:Pt):Prop:=
 (t.c=1/\t.s=0/\t.q=0)\/(t.c=4/\t.s=0/\t.q=0)\/(t.c=5/\t.n=false/\t.s=0/\t.q=0)\/
 (t.c=2/\0<t.s/\t.s<F.lead/\t.q=F.qmin)\/
 (t.c=3/\F.lead<=t.s/\t.s<2*F.lead/\1<=t.q+F.emax+F.p-1/\t.q+F.emax+F.p-1<F.top)

instance (F:Fm) (t:Pt):Decidable (F.Proper t):=by unfold Fm.Proper;infer_instance

def Fm.pk (F:Fm)(t:Pt):Nat:=
 if t.c=2 then F.word t.n 0 t.s
 else if t.c=3 then F.word t.n (t.q+F.emax+F.p-1).toNat t.s
 else if t.c=4 then F.word t.n F.top F.lead
 else if t.c=5 then F.word false F.top (F.lead+2^(F.p-2))
 else F.word t.n 0 0

theorem Fm.Ok.half {F:Fm}(h:F.Ok):F.lead=2*2^(F.p-2):=by
 unfold Fm.lead;have:=h.p1;rw[Nat.mul_comm,<-Nat.pow_succ];congr 1;omega

theorem Fm.Ok.sigLt {F:Fm}(h:F.Ok)(X:Nat):F.sig X<2*F.lead:=by
 have hA:X%2^F.fb<2^F.fb:=Nat.mod_lt _ (Nat.pow_pos (by omega));rw[h.ad]at hA;unfold Fm.sig;rw[h.ad];rcases F with⟨p,e,x⟩;cases x
 . simp only[Bool.false_eq_true,if_false,true_and]at*
   by_cases h5:0<Fm.fld ⟨p,e,false⟩ X
   . simp only[h5,if_true];omega
   . simp only[h5,if_false];omega
 . simpa using hA

theorem Fm.fldLe {F:Fm}(h:F.Ok)(X:Nat):F.fld X<=F.top:=by
 have:=h.top2;have:F.fld X<2^F.e:=Nat.mod_lt _ (Nat.pow_pos (by omega));omega

theorem Fm.Ok.upk_proper {F:Fm}(h:F.Ok)(X:Nat):F.upk X=⟨0,false,0,0⟩\/F.Proper (F.upk X):=by
 unfold Fm.upk
 by_cases hb:F.bad X
 . simp[hb]
 . right
   simp only[hb,if_false];have hs:=h.sigLt X;have hl:=fldLe h X;have ht:=h.top2
   have hb':¬1<F.sgn X/\(F.lead<=F.sig X↔0<F.fld X):=by
    unfold Fm.bad at hb
    exact⟨fun h1=>hb (.inl h1),Classical.byContradiction fun h2=>hb (.inr h2)⟩
   by_cases h1:F.fld X=F.top
   . simp only[h1,if_true]
     by_cases h2:F.sig X=F.lead
     . simp[h2,Fm.Proper]
     . simp[h2,Fm.Proper]
   . simp only[h1,if_false]
     by_cases h2:0<F.fld X
     . simp only[h2,if_true]
       right;right;right;right
       refine⟨rfl,hb'.2.2 h2,hs,?_,?_⟩<;>simp only<;>omega
     . simp only[h2,if_false]
       by_cases h3:F.sig X=0
       . simp[h3,Fm.Proper]
       . simp only[h3,if_false]
         right;right;right;left
         refine⟨rfl,by simp only;omega,?_,rfl⟩;simp only;have:=mt hb'.2.1 h2;omega

theorem Fm.Ok.upk_word {F:Fm}(h:F.Ok)(n:Bool)(fld sig:Nat)(h2:fld<=F.top)(h3:sig<2*F.lead)(h4:F.lead<=sig↔0<fld):
 F.upk (F.word n fld sig)=if fld=F.top then(if sig=F.lead then⟨4,n,0,0⟩else⟨5,false,0,0⟩)
  else if 0<fld then⟨3,n,sig,(fld:Int)-F.emax-F.p+1⟩else if sig=0 then⟨1,n,0,0⟩else⟨2,n,sig,F.qmin⟩:=by
 obtain⟨e1,e2,e3,_⟩:=h.fields n fld sig h2 h3 h4
 have hb:¬F.bad (F.word n fld sig):=by
  unfold Fm.bad;rw[e1,e2,e3]
  have:n.toNat<=1:=by cases n<;>simp
  intro hh;rcases hh with hh|hh
  . omega
  . exact hh h4
 have hn:decide (n.toNat=1)=n:=by cases n<;>rfl
 unfold Fm.upk;simp only[hb,if_false,e1,e2,e3,hn]

theorem Fm.Ok.upk_pk {F:Fm}(h:F.Ok)(t:Pt)(hp:F.Proper t):F.upk (F.pk t)=t/\F.pk t<2^F.wd:=by
 have hl:=h.leadPos;have ht:=h.top2;have hh:=h.half;have hq:0<2^(F.p-2):=Nat.pow_pos (by omega);rcases t with⟨c,n,s,q⟩;simp only[Fm.Proper]at hp;rcases hp with⟨rfl,rfl,rfl⟩|⟨rfl,rfl,rfl⟩|⟨rfl,rfl,rfl,rfl⟩|⟨rfl,h1,h2,rfl⟩|⟨rfl,h1,h2,h3,h4⟩
 . have a1:(0:Nat)<=F.top:=by omega
   have a2:F.lead<=0↔0<0:=by omega
   have e:F.pk ⟨1,n,0,0⟩=F.word n 0 0:=by simp[Fm.pk]
   rw[e,h.upk_word n 0 0 a1 (by omega) a2];refine⟨?_,(h.fields n 0 0 a1 (by omega) a2).2.2.2⟩;have:¬0=F.top:=by omega
   simp[this]
 . have a2:F.lead<=F.lead↔0<F.top:=by omega
   have e:F.pk ⟨4,n,0,0⟩=F.word n F.top F.lead:=by simp[Fm.pk]
   rw[e,h.upk_word n _ _ (by omega) (by omega) a2];refine⟨?_,(h.fields n _ _ (by omega) (by omega) a2).2.2.2⟩
   simp
 . have a2:F.lead<=F.lead+2^(F.p-2)↔0<F.top:=by omega
   have e:F.pk ⟨5,false,0,0⟩=F.word false F.top (F.lead+2^(F.p-2)):=by simp[Fm.pk]
   rw[e,h.upk_word false _ _ (by omega) (by omega) a2];refine⟨?_,(h.fields false _ _ (by omega) (by omega) a2).2.2.2⟩;have:¬F.lead+2^(F.p-2)=F.lead:=by omega
   simp only[this,if_true,if_false]
 . have a1:(0:Nat)<=F.top:=by omega
   have a2:F.lead<=s↔0<0:=by omega
   have e:F.pk ⟨2,n,s,F.qmin⟩=F.word n 0 s:=by simp[Fm.pk]
   rw[e,h.upk_word n 0 s a1 (by omega) a2];refine⟨?_,(h.fields n 0 s a1 (by omega) a2).2.2.2⟩;have b1:¬0=F.top:=by omega
   have b2:¬s=0:=by omega
   simp[b1,b2]
 . obtain⟨f,hf⟩:∃f:Nat,(f:Int)=q+F.emax+F.p-1:=⟨(q+F.emax+F.p-1).toNat,by omega⟩
   have e:F.pk ⟨3,n,s,q⟩=F.word n f s:=by
    have:(q+F.emax+F.p-1).toNat=f:=by omega
    simp[Fm.pk,this]
   have a2:F.lead<=s↔0<f:=by omega
   rw[e,h.upk_word n f s (by omega) (by omega) a2];refine⟨?_,(h.fields n f s (by omega) (by omega) a2).2.2.2⟩;have b1:¬f=F.top:=by omega
   have b2:0<f:=by omega
   have b3:(f:Int)-F.emax-F.p+1=q:=by omega
   simp[b1,b2,b3]

def fm:Nat->Fm
 |0=>⟨24,8,false⟩
 |1=>⟨53,11,false⟩
 |2=>⟨64,15,true⟩
 |_=>⟨113,15,false⟩

theorem iM (f:Nat):(fm f).Ok:=by
 match f with
 |0=>constructor<;>simp[fm,Fm.wd,Fm.fb]
 |1=>constructor<;>simp[fm,Fm.wd,Fm.fb]
 |2=>constructor<;>simp[fm,Fm.wd,Fm.fb]
 |n+3=>constructor<;>simp[fm,Fm.wd,Fm.fb]

end Go.Proofs.YtfdgkleoaehjaaaGreatDoor.M
namespace Go.Proofs.YtfdgkleoaehjaaaGreatDoor
open Go.RowKit
set_option linter.unusedVariables false
set_option maxRecDepth 100000

def fmtC:Array Value:=#[.int .i64 24,.int .i64 (-126),.int .i64 127,.int .i64 32,.int .i64 8,.bool false,
 .int .i64 53,.int .i64 (-1022),.int .i64 1023,.int .i64 64,.int .i64 11,.bool false,
 .int .i64 64,.int .i64 (-16382),.int .i64 16383,.int .i64 80,.int .i64 15,.bool true,
 .int .i64 113,.int .i64 (-16382),.int .i64 16383,.int .i64 128,.int .i64 15,.bool false]

def Fmt (w:World):Prop:= 0<w.heap.size/\∀j,j<24->w.cell? ⟨0,j,none⟩=fmtC[j]?

theorem Fmt.below {w w':World}(h:Fmt w)(hb:Below w.heap.size w w'):Fmt w':=
 ⟨Nat.lt_of_lt_of_le h.1 hb.size,fun j hj=>(hb.cell (p:=⟨0,j,none⟩) h.1).trans (h.2 j hj)⟩

theorem EO (w:World)(h:Fmt w):Calls Tryz.prog 19 #[.int .i64 0] w fun e w'=>e=.returned (.agg #[.int .i64 24,.int .i64 (-126),.int .i64 127,.int .i64 32,.int .i64 8,.bool false])/\Below w.heap.size w w':=by
 have h1:=h.1;have c0:=h.2 0 (by omega);have c1:=h.2 1 (by omega);have c2:=h.2 2 (by omega);have c3:=h.2 3 (by omega);have c4:=h.2 4 (by omega);have c5:=h.2 5 (by omega)
 simp[fmtC]at c0 c1 c2 c3 c4 c5
 clear h;go_enter Tryz.func19,Tryz.ntmps19;go_wp2_with fail;exact bodyPost_ret (v:=.agg #[.int .i64 24,.int .i64 (-126),.int .i64 127,.int .i64 32,.int .i64 8,.bool false]) (by simp[results,Tryz.results19,go_sem]) rfl ⟨rfl,(Below.refl _ _).alloc (Nat.le_refl _) _⟩

theorem BN (w:World):Calls Tryz.prog 9 #[.int .i64 0] w fun e w'=>e=.returned (.agg #[.int .i64 24,.int .i64 (-126),.int .i64 127,.int .i64 32,.int .i64 8,.bool false])/\Below w.heap.size w w':=by
 go_enter Tryz.func9,Tryz.ntmps9;go_wp2_with fail;exact bodyPost_ret (v:=.agg #[.int .i64 24,.int .i64 (-126),.int .i64 127,.int .i64 32,.int .i64 8,.bool false]) (by simp[results,Tryz.results9,go_sem]) rfl ⟨rfl,(Below.refl _ _).alloc (Nat.le_refl _) _⟩

theorem GH (w:World)(h:Fmt w):Calls Tryz.prog 19 #[.int .i64 1] w fun e w'=>e=.returned (.agg #[.int .i64 53,.int .i64 (-1022),.int .i64 1023,.int .i64 64,.int .i64 11,.bool false])/\Below w.heap.size w w':=by
 have h1:=h.1;have c0:=h.2 6 (by omega);have c1:=h.2 7 (by omega);have c2:=h.2 8 (by omega);have c3:=h.2 9 (by omega);have c4:=h.2 10 (by omega);have c5:=h.2 11 (by omega)
 simp[fmtC]at c0 c1 c2 c3 c4 c5
 clear h;go_enter Tryz.func19,Tryz.ntmps19;go_wp2_with fail;exact bodyPost_ret (v:=.agg #[.int .i64 53,.int .i64 (-1022),.int .i64 1023,.int .i64 64,.int .i64 11,.bool false]) (by simp[results,Tryz.results19,go_sem]) rfl ⟨rfl,(Below.refl _ _).alloc (Nat.le_refl _) _⟩

theorem A6 (w:World):Calls Tryz.prog 9 #[.int .i64 1] w fun e w'=>e=.returned (.agg #[.int .i64 53,.int .i64 (-1022),.int .i64 1023,.int .i64 64,.int .i64 11,.bool false])/\Below w.heap.size w w':=by
 go_enter Tryz.func9,Tryz.ntmps9;go_wp2_with fail;exact bodyPost_ret (v:=.agg #[.int .i64 53,.int .i64 (-1022),.int .i64 1023,.int .i64 64,.int .i64 11,.bool false]) (by simp[results,Tryz.results9,go_sem]) rfl ⟨rfl,(Below.refl _ _).alloc (Nat.le_refl _) _⟩

theorem FA (w:World)(h:Fmt w):Calls Tryz.prog 19 #[.int .i64 2] w fun e w'=>e=.returned (.agg #[.int .i64 64,.int .i64 (-16382),.int .i64 16383,.int .i64 80,.int .i64 15,.bool true])/\Below w.heap.size w w':=by
 have h1:=h.1;have c0:=h.2 12 (by omega);have c1:=h.2 13 (by omega);have c2:=h.2 14 (by omega);have c3:=h.2 15 (by omega);have c4:=h.2 16 (by omega);have c5:=h.2 17 (by omega)
 simp[fmtC]at c0 c1 c2 c3 c4 c5
 clear h;go_enter Tryz.func19,Tryz.ntmps19;go_wp2_with fail;exact bodyPost_ret (v:=.agg #[.int .i64 64,.int .i64 (-16382),.int .i64 16383,.int .i64 80,.int .i64 15,.bool true]) (by simp[results,Tryz.results19,go_sem]) rfl ⟨rfl,(Below.refl _ _).alloc (Nat.le_refl _) _⟩

theorem AI (w:World):Calls Tryz.prog 9 #[.int .i64 2] w fun e w'=>e=.returned (.agg #[.int .i64 64,.int .i64 (-16382),.int .i64 16383,.int .i64 80,.int .i64 15,.bool true])/\Below w.heap.size w w':=by
 go_enter Tryz.func9,Tryz.ntmps9;go_wp2_with fail;exact bodyPost_ret (v:=.agg #[.int .i64 64,.int .i64 (-16382),.int .i64 16383,.int .i64 80,.int .i64 15,.bool true]) (by simp[results,Tryz.results9,go_sem]) rfl ⟨rfl,(Below.refl _ _).alloc (Nat.le_refl _) _⟩

theorem D8 (w:World)(h:Fmt w):Calls Tryz.prog 19 #[.int .i64 3] w fun e w'=>e=.returned (.agg #[.int .i64 113,.int .i64 (-16382),.int .i64 16383,.int .i64 128,.int .i64 15,.bool false])/\Below w.heap.size w w':=by
 have h1:=h.1;have c0:=h.2 18 (by omega);have c1:=h.2 19 (by omega);have c2:=h.2 20 (by omega);have c3:=h.2 21 (by omega);have c4:=h.2 22 (by omega);have c5:=h.2 23 (by omega)
 simp[fmtC]at c0 c1 c2 c3 c4 c5
 clear h;go_enter Tryz.func19,Tryz.ntmps19;go_wp2_with fail;exact bodyPost_ret (v:=.agg #[.int .i64 113,.int .i64 (-16382),.int .i64 16383,.int .i64 128,.int .i64 15,.bool false]) (by simp[results,Tryz.results19,go_sem]) rfl ⟨rfl,(Below.refl _ _).alloc (Nat.le_refl _) _⟩

theorem CO (w:World):Calls Tryz.prog 9 #[.int .i64 3] w fun e w'=>e=.returned (.agg #[.int .i64 113,.int .i64 (-16382),.int .i64 16383,.int .i64 128,.int .i64 15,.bool false])/\Below w.heap.size w w':=by
 go_enter Tryz.func9,Tryz.ntmps9;go_wp2_with fail;exact bodyPost_ret (v:=.agg #[.int .i64 113,.int .i64 (-16382),.int .i64 16383,.int .i64 128,.int .i64 15,.bool false]) (by simp[results,Tryz.results9,go_sem]) rfl ⟨rfl,(Below.refl _ _).alloc (Nat.le_refl _) _⟩

theorem zW (f:Int)(w:World)(h:f<0\/4<=f):Calls Tryz.prog 19 #[.int .i64 f] w fun e w'=>e=.returned (.agg #[.int .i64 0,.int .i64 0,.int .i64 0,.int .i64 0,.int .i64 0,.bool false])/\Below w.heap.size w w':=by
 by_cases h1:f<0
 . go_enter Tryz.func19,Tryz.ntmps19;go_wp2_with fail;exact bodyPost_ret (v:=.agg #[.int .i64 0,.int .i64 0,.int .i64 0,.int .i64 0,.int .i64 0,.bool false]) (by simp[results,Tryz.results19,go_sem]) rfl ⟨rfl,(Below.refl _ _).alloc (Nat.le_refl _) _⟩
 . have h2:4<=f:=by omega
   clear h;go_enter Tryz.func19,Tryz.ntmps19;go_wp2_with fail;exact bodyPost_ret (v:=.agg #[.int .i64 0,.int .i64 0,.int .i64 0,.int .i64 0,.int .i64 0,.bool false]) (by simp[results,Tryz.results19,go_sem]) rfl ⟨rfl,(Below.refl _ _).alloc (Nat.le_refl _) _⟩

theorem iR (f:Int)(w:World)(h:f<0\/4<=f):Calls Tryz.prog 9 #[.int .i64 f] w fun e w'=>e=.returned (.agg #[.int .i64 0,.int .i64 0,.int .i64 0,.int .i64 0,.int .i64 0,.bool false])/\Below w.heap.size w w':=by
 have h0:(f==0)=false:=by simp;omega
 have h1:(f==1)=false:=by simp;omega
 have h2:(f==2)=false:=by simp;omega
 have h3:(f==3)=false:=by simp;omega
 clear h;go_enter Tryz.func9,Tryz.ntmps9;go_wp2_with fail;exact bodyPost_ret (v:=.agg #[.int .i64 0,.int .i64 0,.int .i64 0,.int .i64 0,.int .i64 0,.bool false]) (by simp[results,Tryz.results9,go_sem]) rfl ⟨rfl,(Below.refl _ _).alloc (Nat.le_refl _) _⟩

def dv (F:M.Fm):Value:=.agg #[.int .i64 (F.p:Int),.int .i64 (1-(F.emax:Int)),.int .i64 (F.emax:Int),.int .i64 (F.wd:Int),.int .i64 (F.e:Int),.bool F.x]

theorem j4 (f:Nat)(hf:f<4)(w:World)(h:Fmt w):Calls Tryz.prog 19 #[.int .i64 (f:Int)] w fun e w'=>e=.returned (dv (M.fm f))/\Below w.heap.size w w':=by
 match f,hf with
 |0,_=>exact EO w h
 |1,_=>exact GH w h
 |2,_=>exact FA w h
 |3,_=>exact D8 w h

theorem bK (f:Nat)(hf:f<4)(w:World):Calls Tryz.prog 9 #[.int .i64 (f:Int)] w fun e w'=>e=.returned (dv (M.fm f))/\Below w.heap.size w w':=by
 match f,hf with
 |0,_=>exact BN w
 |1,_=>exact A6 w
 |2,_=>exact AI w
 |3,_=>exact CO w

theorem jF (ao:Option Addr)(n cap s:Nat)(xs:List Nat)(w:World)(hl:xs.length=n)(hn:n<=2097152)(hs:s<=2097152)(hr:Rd w ao xs):
 Calls Tryz.prog 138 #[.slice ao n cap,.int .i64 (s:Int)] w fun e w'=>e=.returned (.slice (some ⟨w.heap.size,0,none⟩) (n+s) (n+s))/\Blk w' w.heap.size (xs++List.replicate s 0)/\Below w.heap.size w w':=by
 obtain⟨i0,hi,hz0,hz1,hz2⟩:=info_parts Tryz.infoU
 have hmk:=fun(wx:World)=>run_make (P:=Tryz.prog) wx 87 25 i0 (.int .u64 0) Tryz.underlying87 hi hz0 .i64 .i64 ((n+s:Nat):Int) ((n+s:Nat):Int) (by omega) (Int.le_refl _) (by rw[hz2];omega) (by omega)
 have es:((n+s:Nat):Int)=(n:Int)+(s:Int):=by omega
 rw[es]at hmk;have et:((n:Int)+(s:Int)).toNat=n+s:=by omega
 rw[et]at hmk;have hb1:Below w.heap.size w (w.alloc (.cells (madeCells #[Value.int .u64 0] (n+s)) 25)):=(Below.refl _ _).alloc (Nat.le_refl _) _;have hbk:=fL w (n+s);obtain⟨w2,hcp,hg2,hgr2⟩:=oV 87 Tryz.underlying87 _ w.heap.size (n+s) (n+s) _ hbk ao xs n cap hl (hr.below hb1) (by omega) (by simp[U]);clear es et;go_enter Tryz.func138,Tryz.ntmps138
 go_wp2
 go_ret
 refine⟨rfl,?_,hb1.trans ((Below.refl _ _).grown hgr2 (by simp) (fun _ h=>by cases h;exact Nat.le_refl _))⟩
 have e:U xs++(U (List.replicate (n+s) 0)).drop n=U (xs++List.replicate s 0):=by simp[U]
 rw[e]at hg2;exact hg2

end Go.Proofs.YtfdgkleoaehjaaaGreatDoor
namespace Go.Proofs.YtfdgkleoaehjaaaGreatDoor.M
set_option linter.unusedVariables false
set_option maxRecDepth 100000

theorem mA (B:Nat)(xs:List Nat)(off n:Nat)(h:off+n<=xs.length):
 val B xs=val B (xs.take off)+B^off*(val B (seg xs off n)+B^n*val B (xs.drop (off+n))):=by
 have e1:xs.take off++xs.drop off=xs:=List.take_append_drop off xs
 have e2:seg xs off n++xs.drop (off+n)=xs.drop off:=by
  unfold seg;rw[<-List.drop_drop];exact List.take_append_drop n _
 have l1:(xs.take off).length=off:=by simp;omega
 have l2:=cZ xs off n h
 have h2:val B (xs.drop off)=val B (seg xs off n)+B^n*val B (xs.drop (off+n)):=by
  rw[<-e2,dW,l2]
 rw[<-h2];have h1:=dW B (xs.take off) (xs.drop off);rw[e1,l1]at h1;exact h1

theorem CJ (xs ys:List Nat)(k:Nat)(hl:xs.length=ys.length)(h:∀j,j<k->xs.getD j 0=ys.getD j 0):xs.take k=ys.take k:=by
 apply List.ext_getElem (by simp[hl])
 intro j h1 h2;have:=h j (by simp at h1;omega)
 simp at h1 h2
 simpa[List.getD_eq_getElem?_getD,show j<xs.length by omega,show j<ys.length by omega]using this

theorem qX (xs ys:List Nat)(k:Nat)(hl:xs.length=ys.length)(h:∀j,k<=j->xs.getD j 0=ys.getD j 0):xs.drop k=ys.drop k:=by
 apply List.ext_getElem (by simp[hl])
 intro j h1 h2;have:=h (k+j) (by omega)
 simp at h1 h2
 simpa[List.getD_eq_getElem?_getD,show k+j<xs.length by omega,show k+j<ys.length by omega]using this

theorem tW {B:Nat}{zs cur:List Nat}{off n:Nat}(h:Wrote B zs off n cur)(hl:off+n<=zs.length):
 val B cur+B^off*val B (seg zs off n)=val B zs+B^off*val B (seg cur off n):=by
 rw[mA B cur off n (by rw[h.len];exact hl),mA B zs off n hl,CJ cur zs off h.len (fun j hj=>h.out j (by omega)),qX cur zs (off+n) h.len (fun j hj=>h.out j (by omega))]
 simp only[Nat.mul_add];omega

theorem yK (x y f c p:Nat)(hp:p=y*f)(hx:x<18446744073709551616)(hy:y<18446744073709551616)(hf:f<18446744073709551616)(hc:c<18446744073709551616):
 ∃l2 r1 h2 o r2 c':Nat,l2=(p%18446744073709551616+c)%18446744073709551616/\r1=(if(l2:Int)<(c:Int)then 1 else 0)/\h2=p/18446744073709551616+r1/\h2<18446744073709551616/\
  o=(x+l2)%18446744073709551616/\r2=(if(o:Int)<(l2:Int)then 1 else 0)/\c'=h2+r2/\c'<18446744073709551616/\o<18446744073709551616/\o+18446744073709551616*c'=x+p+c:=by
 have hb:p<=18446744073709551615*18446744073709551615:=by rw[hp];exact Nat.mul_le_mul (by omega) (by omega)
 refine⟨_,_,_,_,_,_,rfl,rfl,rfl,?_,rfl,rfl,rfl,?_,?_,?_⟩
 . split<;>omega
 . split<;>split<;>omega
 . omega
 . split<;>split<;>omega

theorem AL {V V' V0 T c c' P B x y o f:Nat}(h:V+c*P=V0+f*T)(hv:V'+P*x=V+P*o)(hs:o+B*c'=x+y*f+c):V'+c'*(P*B)=V0+f*(T+P*y):=by
 have e:P*(o+B*c')=P*(x+y*f+c):=by rw[hs]
 simp only[Nat.mul_add]at e|-;rw[Nat.mul_comm c' (P*B),Nat.mul_assoc];rw[Nat.mul_comm c P]at h;have e2:f*(P*y)=P*(y*f):=by rw[Nat.mul_comm f,Nat.mul_assoc]
 rw[e2];omega

theorem NI {V V1 V2 S S1 c Pk Bn a y T:Nat}(h:V=a*T)(h1:V1+Pk*S=V+Pk*S1)(hs:S1+c*Bn=S+y*a)(h2:V2=V1+Pk*Bn*c):V2=a*(T+Pk*y):=by
 have e:Pk*(S1+c*Bn)=Pk*(S+y*a):=by rw[hs]
 simp only[Nat.mul_add]at e|-;have e1:Pk*Bn*c=Pk*(c*Bn):=by rw[Nat.mul_assoc,Nat.mul_comm Bn c]
 have e2:a*(Pk*y)=Pk*(y*a):=by rw[Nat.mul_left_comm,Nat.mul_comm a y]
 rw[e2,<-h];omega

end Go.Proofs.YtfdgkleoaehjaaaGreatDoor.M
