import Derived.Deep.CutBlock
import Derived.Deep.DeepCutAuto
import Derived.Test.YtfdgkleoaehjaaaGreatDoorfGAD
set_option maxHeartbeats 1000000
namespace Go.Proofs.YtfdgkleoaehjaaaGreatDoor
open Go.RowKit
set_option linter.unusedVariables false
set_option maxRecDepth 100000

theorem aK {w1 W v:World}(h:Below w1.heap.size w1 W)(k:Below W.heap.size W v):Below w1.heap.size w1 v:=h.trans (k.mono h.size)

theorem dZ {w1 W:World}(h:Below w1.heap.size w1 W)(o:Obj):Below w1.heap.size w1 (W.alloc o):=h.alloc h.size o

theorem qV {w1 W:World}(h:Below w1.heap.size w1 W)(g o:Nat)(hg:w1.heap.size<=g)(u:Value):Below w1.heap.size w1 (W.setCell ⟨g,o,none⟩ u):=h.setCell hg u

theorem kc {w v:World}{p:Addr}{x:Value}(hb:Below w.heap.size w v)(c:w.cell? p=some x):v.cell? p=some x:=(hb.cell (World.block_lt_of_cell? w p c)).trans c

theorem kz {w v:World}{b o:Nat}(hb:Below w.heap.size w v)(h:b<w.heap.size)(c:w.frozen? ⟨b,o,none⟩=false):v.frozen? ⟨b,o,none⟩=false:=(hb.frozen h).trans c

def W2 (v:World)(g X:Nat):Prop:=v.cell? ⟨g,0,none⟩=some (.int .u64 (M.hiN X:Int))/\v.cell? ⟨g,1,none⟩=some (.int .u64 (M.loN X:Int))/\v.frozen? ⟨g,0,none⟩=false/\v.frozen? ⟨g,1,none⟩=false/\g<v.heap.size

theorem KJ (v:World)(X:Nat)(t:TypeId):W2 (v.alloc (.cells #[.int .u64 (M.hiN X:Int),.int .u64 (M.loN X:Int)] t)) v.heap.size X:=by
 unfold W2;simp[go_sem]

theorem AH {v:World}{g X:Nat}{a b:Value}(h0:v.cell? ⟨g,0,none⟩=some a)(h1:v.cell? ⟨g,1,none⟩=some b)(f0:v.frozen? ⟨g,0,none⟩=false)(f1:v.frozen? ⟨g,1,none⟩=false):
 W2 ((v.setCell ⟨g,0,none⟩ (.int .u64 (M.hiN X:Int))).setCell ⟨g,1,none⟩ (.int .u64 (M.loN X:Int))) g X:=by
 have:=World.block_lt_of_cell? v ⟨g,0,none⟩ h0;unfold W2;simp[go_sem,h0,h1,f0,f1];simpa using this

theorem gL (v:World)(x y:Value){g b o:Nat}(h:b≠g):((v.setCell ⟨g,0,none⟩ x).setCell ⟨g,1,none⟩ y).cell? ⟨b,o,none⟩=v.cell? ⟨b,o,none⟩:=
 World.cell?_of_block (w:=v) (a:=⟨b,o,none⟩) ((Below.heap_setCell _ _ _ _ h).trans (Below.heap_setCell _ _ _ _ h))

theorem uK (v:World)(x y:Value){g b o:Nat}(h:b≠g):((v.setCell ⟨g,0,none⟩ x).setCell ⟨g,1,none⟩ y).frozen? ⟨b,o,none⟩=v.frozen? ⟨b,o,none⟩:=
 World.frozen?_of_block (w:=v) (a:=⟨b,o,none⟩) ((Below.heap_setCell _ _ _ _ h).trans (Below.heap_setCell _ _ _ _ h))

def pv (t:M.Pt):Value:=.agg #[.int .i64 t.c,.bool t.n,.int .u64 (M.hiN t.s:Int),.int .u64 (M.loN t.s:Int),.int .i64 t.q]

theorem hi0:M.hiN 0=0:=by unfold M.hiN;omega

theorem lo0:M.loN 0=0:=by unfold M.loN;omega

theorem lF (t:M.Pt){a e:Int}{b:Bool}{c d:Nat}(h1:a=t.c)(h2:b=t.n)(h3:c=M.hiN t.s)(h4:d=M.loN t.s)(h5:e=t.q):
 Ending.returned (.agg #[.int .i64 a,.bool b,.int .u64 (c:Int),.int .u64 (d:Int),.int .i64 e])=.returned (pv t):=by
 subst h1;subst h2;subst h3;subst h4;subst h5;rfl

theorem jY {w v:World}{g:Nat}(h:Below w.heap.size w v)(hg:w.heap.size<=g)(a b c d e:Value):Below w.heap.size w (((((v.setCell ⟨g,0,none⟩ a).setCell ⟨g,1,none⟩ b).setCell ⟨g,2,none⟩ c).setCell ⟨g,3,none⟩ d).setCell ⟨g,4,none⟩ e):=
 ((((h.setCell (p:=⟨g,0,none⟩) hg a).setCell (p:=⟨g,1,none⟩) hg b).setCell (p:=⟨g,2,none⟩) hg c).setCell (p:=⟨g,3,none⟩) hg d).setCell (p:=⟨g,4,none⟩) hg e

theorem V2 (l h:Nat):V [l,h]=h*18446744073709551616+l:=by simp[V,M.val];omega

theorem gF (X:Nat)(hX:X<2^128)(w:World):
 Calls Tryz.prog 63 #[.agg #[.int .u64 (M.hiN X:Int),.int .u64 (M.loN X:Int)]] w fun e w'=>Ret w w' e (D X):=by
 have hv:V [M.loN X,M.hiN X]=X:=by rw[V2];exact(M.hl X).symm
 have hf:F64 [M.loN X,M.hiN X]:=by intro y hy;simp at hy;have:=M.kZ X;have:=M.mN hX;omega
 generalize M.hiN X=h at*;generalize M.loN X=l at*;have HV:=hid hv;clear hv;obtain⟨w1,hw1⟩:∃w1,w1=w.alloc (.cells #[.int .u64 (h:Int),.int .u64 (l:Int)] 27):=⟨_,rfl⟩;have hB:=mL w1 [l,h];have b0:Below w.heap.size w w1:=by rw[hw1];exact(Below.refl _ _).alloc (Nat.le_refl _) _
 have hb:Below w1.heap.size w1 (w1.alloc (.cells (U [l,h]).toArray 25)):=(Below.refl _ _).alloc (Nat.le_refl _) _;have hU:(U [l,h]).toArray=#[Value.int .u64 (l:Int),Value.int .u64 (h:Int)]:=rfl;rw[hU]at hB hb;have hsz:w1.heap.size=w.heap.size+1:=by rw[hw1];simp
 rw[hw1]at hB hb b0;rw[hw1]at hsz;rw[hsz]at hB;clear hU hw1;go_enter Tryz.func63,Tryz.ntmps63;go_wp2_with fail;refine(oM _ 2 2 [l,h] _ rfl (by omega) hf hB.rd0).mono ?_;rw[HV.out];rintro e w2 ⟨ao',cap',rfl,ho,hb'⟩;go_wp2_with fail;go_ret;have b1:=b0.trans (hb.mono b0.size);exact⟨ao',cap',rfl,aM ho b1.size,b1.trans (hb'.mono b1.size)⟩

theorem mB (ao:Option Addr)(n c s:Nat)(a:Nat)(w:World)(hl:(D a).length=n)(hn:n<=64)(hs:s<=128)(hr:Rd w ao (D a)):
 Calls Tryz.prog 66 #[.slice ao n c,.int .i64 (s:Int)] w fun e w'=>Ret w w' e (D (a%2^s)):=by
 have hle:a/2^s*2^s<=a:=Nat.div_mul_le_self _ _
 have hsub:a-a/2^s*2^s=a%2^s:=by
  have:=Nat.div_add_mod a (2^s);rw[Nat.mul_comm]at this;omega
 have hq:(D (a/2^s)).length<=n:=by
  rw[<-hl];exact M.len_of_lt (by omega) _ _ (Nat.lt_of_le_of_lt (Nat.div_le_self _ _) (M.j5 (by omega) a))
 have HS:=hid hsub;have HLE:=hid hle;obtain⟨q,hqd⟩:∃q,q=a/2^s:=⟨_,rfl⟩;rw[<-hqd]at hq HS HLE;have HQ:=hid hqd;clear hsub hle hqd;go_enter Tryz.func66,Tryz.ntmps66;go_wp2_with fail;refine(gI ao n c s a _ hl (by omega) (by omega) hr).mono ?_;rw[<-HQ.out];rintro e w1 ⟨ao1,cap1,rfl,ho1,hb1⟩;go_wp2_with fail;refine(aN ao1 _ cap1 s q _ rfl (by omega) (by omega) (Rd.own ho1)).mono ?_;rintro e w2 ⟨ao2,cap2,rfl,ho2,hb2⟩;have b2:=hb1.trans (hb2.mono hb1.size);go_wp2_with fail;refine(gU ao ao2 n _ c cap2 a (q*2^s) _ hl rfl HLE.out (by omega) (hr.below b2) (Rd.own ho2)).mono ?_;rw[HS.out];rintro e w3 ⟨ao3,cap3,rfl,ho3,hb3⟩;go_wp2_with fail;go_ret;exact⟨ao3,cap3,rfl,aM ho3 b2.size,b2.trans (hb3.mono b2.size)⟩

theorem jG (s:Nat)(w:World)(hs:s<=128):
 Calls Tryz.prog 43 #[.int .i64 (s:Int)] w fun e w'=>Ret w w' e (D (2^s)):=by
 go_enter Tryz.func43,Tryz.ntmps43;go_wp2_with fail;refine(aU 1 _ (by omega)).mono ?_;rintro e w1 ⟨ao1,cap1,rfl,ho1,hb1⟩;have hl:(D 1).length<=6:=dG 1 (by omega);go_wp2_with fail;refine(aN ao1 _ cap1 s 1 _ rfl (by omega) (by omega) (Rd.own ho1)).mono ?_;rw[Nat.one_mul];rintro e w2 ⟨ao2,cap2,rfl,ho2,hb2⟩;go_wp2_with fail;go_ret;exact⟨ao2,cap2,rfl,aM ho2 hb1.size,hb1.trans (hb2.mono hb1.size)⟩

theorem RX (y:Nat)(h:y<18446744073709551616):bits BinOp.and IntKind.u64 (y:Int) 1=((y%2:Nat):Int):=by
 have:=u64_and_nat y 1 h (by omega);rw[show((1:Nat):Int)=1 from rfl,Nat.and_one_is_mod]at this;exact this

theorem GE (a i:Nat):(D a).getD (i/32) 0/2^(i%32)%2=a/2^i%2:=by
 rw[yF,show(4294967296:Nat)=2^32 from rfl,<-Nat.pow_mul]
 have e:2^32=2^(i%32)*(2*2^(31-i%32)):=by
  rw[<-Nat.pow_succ',<-Nat.pow_add];congr 1;omega
 rw[e,Nat.mod_mul_right_div_self,Nat.mod_mul_right_mod,Nat.div_div_eq_div_mul,<-Nat.pow_add]
 congr 2
 have:=Nat.div_add_mod i 32;rw[this]

theorem pL (ao:Option Addr)(n c i:Nat)(a:Nat)(w:World)(hl:(D a).length=n)(hn:n<=64)(hi:i<=200)(hr:Rd w ao (D a))(b:Nat)(hb:b=a/2^i%2):
 Calls Tryz.prog 102 #[.slice ao n c,.int .i64 (i:Int)] w fun e w'=>e=.returned (.int .u64 (b:Int))/\w'=w:=by
 obtain⟨q,hq⟩:∃q:Nat,q=i/32:=⟨_,rfl⟩;obtain⟨p,hp⟩:∃p:Nat,p=i%32:=⟨_,rfl⟩;have hqI:(i:Int)/32=(q:Int):=by omega
 have hpI:(i:Int)%32=(p:Int):=by omega
 have hpb:p<32:=by omega
 have hqb:q<=200:=by omega
 obtain⟨x,hx⟩:∃x:Nat,x=(D a).getD q 0:=⟨_,rfl⟩;have hxl:x<4294967296:=by rw[hx];exact(iD a).get q
 have hd:=GE a i;rw[<-hq,<-hp,<-hx,<-hb]at hd;have hdc:=fM x p;have hle:x/2^p<=x:=Nat.div_le_self _ _;have ha:=RX (x/2^p) (by omega);rw[hd,<-hdc]at ha;have HX:=hid hx;clear hq hp hx hd hdc hle hb;go_enter Tryz.func102,Tryz.ntmps102;go_wp2_with fail;refine(cO ao _ c q (D a) _ hl (by omega) (by omega) hr x HX.out).mono ?_;rintro e w2 ⟨rfl,rfl⟩;go_wp2_with fail;go_ret;exact⟨rfl,rfl⟩

def Cls (v:World)(g:Nat)(xs:Array Value)(t:TypeId):Prop:=v.heap[g]? =some (.cells xs t (0,0))

theorem Cls.lt {v:World}{g:Nat}{xs:Array Value}{t:TypeId}(h:Cls v g xs t):g<v.heap.size:=(Array.getElem?_eq_some_iff.1 h).1

theorem Cls.new (v:World)(xs:Array Value)(t:TypeId):Cls (v.alloc (.cells xs t)) v.heap.size xs t:=heap_alloc_new v _

theorem Cls.cell {v:World}{g:Nat}{xs:Array Value}{t:TypeId}(h:Cls v g xs t)(i:Nat){x:Value}(hx:xs[i]? =some x):v.cell? ⟨g,i,none⟩=some x:=by
 rw[cell_of_row v g i _ _ (0,0) h,hx]

theorem Cls.frozen {v:World}{g:Nat}{xs:Array Value}{t:TypeId}(h:Cls v g xs t)(i:Nat):v.frozen? ⟨g,i,none⟩=false:=frozen_of_row v g i _ _ h

theorem Cls.below {v v':World}{g:Nat}{xs:Array Value}{t:TypeId}(h:Cls v g xs t)(hb:Below v.heap.size v v'):Cls v' g xs t:=(hb.block g h.lt).trans h

theorem Cls.grown {v v':World}{g:Nat}{xs:Array Value}{t:TypeId}{row:Option Nat}(h:Cls v g xs t)(hg:v.grownBy v' row)(hr:some g≠row):Cls v' g xs t:=(hg.block g h.lt hr).trans h

theorem Cls.set {v:World}{g:Nat}{xs:Array Value}{t:TypeId}(h:Cls v g xs t)(i:Nat)(x:Value)(ys:Array Value)(hy:xs.setIfInBounds i x=ys):Cls (v.setCell ⟨g,i,none⟩ x) g ys t:=by
 subst hy;unfold Cls;rw[heap_setCell_same v g i _ _ _ h]

theorem Cls.far {v:World}{g:Nat}{xs:Array Value}{t:TypeId}(h:Cls v g xs t)(a:Addr)(ha:a.block≠g)(x:Value):Cls (v.setCell a x) g xs t:=by
 unfold Cls
 rw[Below.heap_setCell _ _ _ _ (fun e=>ha e.symm)];exact h

def Rs (w0 v:World)(ao:Option Addr)(n c:Nat):Prop:=∃i,i<=n/\IsRdr v w0.heap.size ao n c i/\Below w0.heap.size w0 v

theorem Rs.keep {w0 v v':World}{ao:Option Addr}{n c:Nat}(h:Rs w0 v ao n c)(hb:Below v.heap.size v v'):Rs w0 v' ao n c:=by
 obtain⟨i,h1,h2,h3⟩:=h;exact⟨i,h1,(hb.block _ h2.lt).trans h2,h3.trans (hb.mono h3.size)⟩

theorem Rs.alloc {w0 v:World}{ao:Option Addr}{n c:Nat}(h:Rs w0 v ao n c)(o:Obj):Rs w0 (v.alloc o) ao n c:=h.keep ((Below.refl _ _).alloc (Nat.le_refl _) _)

theorem Rs.below {w0 v:World}{ao:Option Addr}{n c:Nat}(h:Rs w0 v ao n c):Below w0.heap.size w0 v:=by
 obtain⟨i,h1,h2,h3⟩:=h;exact h3

theorem Rs.set {w0 v:World}{ao:Option Addr}{n c:Nat}(h:Rs w0 v ao n c)(b i:Nat)(x:Value)(hb:w0.heap.size<b):Rs w0 (v.setCell ⟨b,i,none⟩ x) ao n c:=by
 obtain⟨j,h1,h2,h3⟩:=h;refine⟨j,h1,?_,h3.setCell (p:=⟨b,i,none⟩) (by simp only;omega) _⟩;unfold IsRdr;rw[Below.heap_setCell _ _ _ _ (by simp only;omega)];exact h2

theorem Q9 {w:World}{ao:Option Addr}{bs:List Nat}(h:RdB w ao bs):0<bs.length->∀b2 o2,ao=some ⟨b2,o2,none⟩->b2≠w.heap.size:=by
 intro hp b2 o2 e;obtain⟨b3,o3,e3,hc⟩:=h.2 hp;rw[e]at e3;simp only[Option.some.injEq,Addr.mk.injEq]at e3;have:=World.block_lt_of_cell? w _ (hc 0 hp)
 simp at this
 omega

def Sx (g:Nat)(v v':World):Prop:=v.heap.size<=v'.heap.size/\∀k,k<v.heap.size->k≠g->v'.heap[k]? =v.heap[k]?

theorem Sx.of {g:Nat}{v v':World}(h:Below v.heap.size v v'):Sx g v v':=⟨h.size,fun k hk _=>h.block k hk⟩

theorem Sx.grown {g:Nat}{v v':World}(h:v.grownBy v' (some g)):Sx g v v':=⟨h.size,fun k hk hn=>h.block k hk (by intro e;injection e with e;exact hn e)⟩

theorem Sx.cls {g b:Nat}{v v':World}{xs:Array Value}{t:TypeId}(h:Sx g v v')(hc:Cls v b xs t)(hb:b≠g):Cls v' b xs t:=(h.2 b hc.lt hb).trans hc

theorem LX (bs:List Nat)(i n:Nat)(hl:bs.length=n)(hi:i<=n):adv bs i<=n:=by unfold adv;split<;>omega

theorem cQ {w0 v:World}{ao:Option Addr}{n c:Nat}{bs:List Nat}(hl:bs.length=n)(hn:n<=1048576)(hb:RdB w0 ao bs)(h:Rs w0 v ao n c):
 Calls Tryz.prog 44 #[.pointer (some ⟨w0.heap.size,0,none⟩)] v fun e v'=>∃x:Nat,x<256/\e=.returned (.int .i64 (x:Int))/\Rs w0 v' ao n c/\Sx w0.heap.size v v':=by
 obtain⟨i,h1,h2,h3⟩:=h;refine(rW w0.heap.size ao n c i bs v hl hn h1 h2 (hb.below h3) _ rfl).mono ?_;rintro e v' ⟨rfl,hR,hg⟩
 exact⟨_,vZ hb i,rfl,⟨_,LX bs i n hl h1,hR,h3.grown hg h3.size (fun _ e=>by cases e;exact Nat.le_refl _)⟩,Sx.grown hg⟩

theorem qG {w0 v:World}{ao:Option Addr}{n c:Nat}{bs:List Nat}(hl:bs.length=n)(hn:n<=1048576)(hb:RdB w0 ao bs)(h:Rs w0 v ao n c):
 Calls Tryz.prog 118 #[.pointer (some ⟨w0.heap.size,0,none⟩)] v fun e v'=>∃x:Nat,x<18446744073709551616/\e=.returned (.int .u64 (x:Int))/\Rs w0 v' ao n c/\Sx w0.heap.size v v':=by
 obtain⟨i,h1,h2,h3⟩:=h;refine(K8 w0.heap.size ao n c i bs v hl hn h1 h2 (hb.below h3) (Q9 hb) _ _ rfl rfl).mono ?_;rintro e v' ⟨rfl,hR,hg⟩;have hlt:=yE bs i hb.1 8
 exact⟨_,by simpa using hlt,rfl,⟨_,yZ bs i n hl h1 8,hR,h3.grown hg h3.size (fun _ e=>by cases e;exact Nat.le_refl _)⟩,Sx.grown hg⟩

theorem BJ {w0 v:World}{ao:Option Addr}{n c:Nat}{bs:List Nat}(hl:bs.length=n)(hn:n<=1048576)(hb:RdB w0 ao bs)(h:Rs w0 v ao n c):
 Calls Tryz.prog 15 #[.pointer (some ⟨w0.heap.size,0,none⟩)] v fun e v'=>∃f:Int,-4<=f/\f<=3/\e=.returned (.int .i64 f)/\Rs w0 v' ao n c:=by
 go_enter Tryz.func15,Tryz.ntmps15;go_wp2_with fail;refine(cQ hl hn hb h).mono ?_;rintro e v1 ⟨x,hx,rfl,h1,_⟩
 by_cases h8:248<=x
 . have h8':(248:Int)<=(x:Int):=by omega
   go_wp2_with fail;go_ret;exact⟨_,by omega,by omega,rfl,h1⟩
 . have h8':¬(248:Int)<=(x:Int):=by omega
   have e4:(x:Int).tmod 4=((x%4:Nat):Int):=by rw[Int.tmod_eq_emod_of_nonneg (by omega)];omega
   go_wp2_with fail;go_ret;exact⟨_,by omega,by omega,rfl,h1⟩

structure Bx (w0 v:World)(ao:Option Addr)(n c bR bD bP:Nat)(ds ps:Array Value):Prop where
 rs:Rs w0 v ao n c
 r:Cls v bR #[.int .u64 0,.int .u64 0] 27
 d:Cls v bD ds 37
 p:Cls v bP ps 67
 s0:w0.heap.size<bR
 s1:bR<bD
 s2:bD<bP

theorem Bx.sx {w0 v v':World}{ao:Option Addr}{n c bR bD bP:Nat}{ds ps:Array Value}(h:Bx w0 v ao n c bR bD bP ds ps)(hx:Sx w0.heap.size v v')(hr:Rs w0 v' ao n c):Bx w0 v' ao n c bR bD bP ds ps:=
 ⟨hr,hx.cls h.r (by have:=h.s0;omega),hx.cls h.d (by have:=h.s0;have:=h.s1;omega),hx.cls h.p (by have:=h.s0;have:=h.s1;have:=h.s2;omega),h.s0,h.s1,h.s2⟩

theorem Bx.keep {w0 v v':World}{ao:Option Addr}{n c bR bD bP:Nat}{ds ps:Array Value}(h:Bx w0 v ao n c bR bD bP ds ps)(hb:Below v.heap.size v v'):Bx w0 v' ao n c bR bD bP ds ps:=
 h.sx (Sx.of hb) (h.rs.keep hb)

theorem Bx.alloc {w0 v:World}{ao:Option Addr}{n c bR bD bP:Nat}{ds ps:Array Value}(h:Bx w0 v ao n c bR bD bP ds ps)(o:Obj):Bx w0 (v.alloc o) ao n c bR bD bP ds ps:=h.keep ((Below.refl _ _).alloc (Nat.le_refl _) _)

theorem Bx.drew {w0 v:World}{ao:Option Addr}{n c bR bD bP:Nat}{ds ps:Array Value}(h:Bx w0 v ao n c bR bD bP ds ps):Bx w0 v.drew ao n c bR bD bP ds ps:=h.keep (Below.refl _ _).drew

theorem Bx.setP {w0 v:World}{ao:Option Addr}{n c bR bD bP:Nat}{ds ps:Array Value}(h:Bx w0 v ao n c bR bD bP ds ps)(i:Nat)(x:Value)(qs:Array Value)(hq:ps.setIfInBounds i x=qs):Bx w0 (v.setCell ⟨bP,i,none⟩ x) ao n c bR bD bP ds qs:=
 ⟨h.rs.set bP i x (by have:=h.s0;have:=h.s1;have:=h.s2;omega),h.r.far _ (by have:=h.s1;have:=h.s2;simp only;omega) _,h.d.far _ (by have:=h.s2;simp only;omega) _,h.p.set i x qs hq,h.s0,h.s1,h.s2⟩

theorem Rd.sx {g:Nat}{v v':World}{a:Option Addr}{xs:List Nat}(h:Rd v a xs)(hx:Sx g v v')(hg:∀b o,0<xs.length->a=some ⟨b,o,none⟩->b≠g):Rd v' a xs:=by
 intro hp;obtain⟨b,o,e,hc⟩:=h hp
 refine⟨b,o,e,fun i hi=>?_⟩
 have hb:=hx.2 b (World.block_lt_of_cell? v _ (hc i hi)) (hg b o hp e);exact(World.cell?_of_block hb).trans (hc i hi)

structure Nw (w0 v:World)(a:Option Addr)(m c A:Nat):Prop where
 len:(D A).length=m
 rd:Rd v a (D A)
 far:∀b o,0<(D A).length->a=some ⟨b,o,none⟩->b≠w0.heap.size

theorem Nw.of {w0 v v':World}{a:Option Addr}{c A:Nat}(h:v'.ownsRow v.heap.size 25 1 (.slice a (D A).length c) (D A).length (U (D A)))(hw:w0.heap.size<v.heap.size):Nw w0 v' a (D A).length c A:=
 ⟨rfl,Rd.own h,fun b o hp e=>by
   rcases h.2 with⟨he,h0⟩|⟨g,cap',cur,he,hb,_⟩
   . omega
   . simp only[Value.slice.injEq]at he;rw[e]at he;simp only[Option.some.injEq,Addr.mk.injEq]at he
     omega⟩

theorem Nw.sx {w0 v v':World}{a:Option Addr}{m c A:Nat}(h:Nw w0 v a m c A)(hx:Sx w0.heap.size v v'):Nw w0 v' a m c A:=⟨h.len,h.rd.sx hx h.far,h.far⟩

theorem Nw.keep {w0 v v':World}{a:Option Addr}{m c A:Nat}(h:Nw w0 v a m c A)(hb:Below v.heap.size v v'):Nw w0 v' a m c A:=h.sx (Sx.of hb)

theorem Nw.drew {w0 v:World}{a:Option Addr}{m c A:Nat}(h:Nw w0 v a m c A):Nw w0 v.drew a m c A:=h.keep (Below.refl _ _).drew

theorem Rs.lt {w0 v:World}{ao:Option Addr}{n c:Nat}(h:Rs w0 v ao n c):w0.heap.size<v.heap.size:=by
 obtain⟨i,_,hi,_⟩:=h;exact hi.lt

theorem zF {A:Nat}(h:A<2^130):(D A).length<=6:=dG A (by omega)

theorem inS {w0:World}(x y:Nat)(u:World)(hx:x<18446744073709551616)(hy:y<18446744073709551616)(hw:w0.heap.size<u.heap.size):
 Calls Tryz.prog 40 #[.slice (some ⟨u.heap.size,0,none⟩) 2 2] (u.alloc (.cells #[.int .u64 (x:Int),.int .u64 (y:Int)] 25)) fun e u'=>∃A a m c,A<2^128/\e=.returned (.slice a m c)/\Nw w0 u' a m c A/\Below u.heap.size u u':=by
 have hB:Blk (u.alloc (.cells #[.int .u64 (x:Int),.int .u64 (y:Int)] 25)) u.heap.size [x,y]:=heap_alloc_new u _;have hs:u.heap.size<=(u.alloc (.cells #[.int .u64 (x:Int),.int .u64 (y:Int)] 25)).heap.size:=by simp
 refine(oM (some ⟨u.heap.size,0,none⟩) 2 2 [x,y] _ rfl (by omega) (by intro z hz;simp at hz;omega) hB.rd0).mono ?_;rintro e u' ⟨a,c,rfl,ho,hb⟩;refine⟨V [x,y],a,_,c,?_,rfl,Nw.of ho (by omega),((Below.refl _ u).alloc (Nat.le_refl _) _).trans (hb.mono hs)⟩
 simp[V,M.val];omega

theorem QE {w0:World}(A:Nat)(E:Int)(a:Option Addr)(m c:Nat)(u:World)(hA:A<2^128)(hE1:0<=E)(hE2:E<=1000)(hr:Nw w0 u a m c A)(hw:w0.heap.size<u.heap.size):
 Calls Tryz.prog 61 #[.slice a m c,.int .i64 E] u fun e u'=>∃B a' m' c',B<2^128/\e=.returned (.slice a' m' c')/\Nw w0 u' a' m' c' B/\Below u.heap.size u u':=by
 obtain⟨s,rfl⟩:=Int.eq_ofNat_of_zero_le hE1;have hl:=hr.len;have h6:=zF (A:=A) (by omega);refine(gI a m c s A u hl (by omega) (by omega) hr.rd).mono ?_;rintro e u' ⟨a',c',rfl,ho,hb⟩;exact⟨_,a',_,c',Nat.lt_of_le_of_lt (Nat.div_le_self _ _) hA,rfl,Nw.of ho hw,hb⟩

theorem QL {w0:World}(A s:Nat)(E:Int)(hE:E=(s:Int))(a:Option Addr)(m c:Nat)(u:World)(hA:A<2^128)(hs:s<=128)(hr:Nw w0 u a m c A)(hw:w0.heap.size<u.heap.size):
 Calls Tryz.prog 66 #[.slice a m c,.int .i64 E] u fun e u'=>∃B a' m' c',B<2^s/\e=.returned (.slice a' m' c')/\Nw w0 u' a' m' c' B/\Below u.heap.size u u':=by
 subst hE;have hl:=hr.len;have h6:=zF (A:=A) (by omega);refine(mB a m c s A u hl (by omega) hs hr.rd).mono ?_;rintro e u' ⟨a',c',rfl,ho,hb⟩;exact⟨_,a',_,c',Nat.mod_lt _ (Nat.pow_pos (by omega)),rfl,Nw.of ho hw,hb⟩

theorem QR {w0:World}(s:Nat)(E:Int)(hE:E=(s:Int))(u:World)(hs:s<=128)(hw:w0.heap.size<u.heap.size):
 Calls Tryz.prog 43 #[.int .i64 E] u fun e u'=>∃a' m' c',e=.returned (.slice a' m' c')/\Nw w0 u' a' m' c' (2^s)/\Below u.heap.size u u':=by
 subst hE;refine(jG s u hs).mono ?_;rintro e u' ⟨a',c',rfl,ho,hb⟩;exact⟨a',_,c',rfl,Nw.of ho hw,hb⟩

theorem ofS {w0:World}(E:Int)(u:World)(hE1:0<=E)(hE2:E<=1000)(hw:w0.heap.size<u.heap.size):
 Calls Tryz.prog 21 #[.int .u64 E] u fun e u'=>∃(B:Nat)(a':Option Addr)(m' c':Nat),(B:Int)=E/\e=.returned (.slice a' m' c')/\Nw w0 u' a' m' c' B/\Below u.heap.size u u':=by
 obtain⟨s,rfl⟩:=Int.eq_ofNat_of_zero_le hE1;refine(aU s u (by omega)).mono ?_;rintro e u' ⟨a',c',rfl,ho,hb⟩;exact⟨s,a',_,c',rfl,rfl,Nw.of ho hw,hb⟩

theorem RI {w0:World}(A B:Nat)(a b:Option Addr)(m k c d:Nat)(u:World)(hA:A<2^129)(hB:B<2^129)(hr:Nw w0 u a m c A)(hr2:Nw w0 u b k d B)(hw:w0.heap.size<u.heap.size):
 Calls Tryz.prog 53 #[.slice a m c,.slice b k d] u fun e u'=>∃a' m' c',e=.returned (.slice a' m' c')/\Nw w0 u' a' m' c' (A+B)/\Below u.heap.size u u':=by
 have hl:=hr.len;have hl2:=hr2.len;have h6:=zF (A:=A) (by omega);have h7:=zF (A:=B) (by omega);refine(cJ a b m k c d A B u hl hl2 (by omega) (by omega) hr.rd hr2.rd).mono ?_;rintro e u' ⟨a',c',rfl,ho,hb⟩;exact⟨a',_,c',rfl,Nw.of ho hw,hb⟩

theorem RN {w0:World}(A B:Nat)(a b:Option Addr)(m k c d:Nat)(u:World)(hA:A<2^129)(hB:B<=A)(hr:Nw w0 u a m c A)(hr2:Nw w0 u b k d B)(hw:w0.heap.size<u.heap.size):
 Calls Tryz.prog 101 #[.slice a m c,.slice b k d] u fun e u'=>∃a' m' c',e=.returned (.slice a' m' c')/\Nw w0 u' a' m' c' (A-B)/\Below u.heap.size u u':=by
 have hl:=hr.len;have hl2:=hr2.len;have h6:=zF (A:=A) (by omega);refine(gU a b m k c d A B u hl hl2 hB (by omega) hr.rd hr2.rd).mono ?_;rintro e u' ⟨a',c',rfl,ho,hb⟩;exact⟨a',_,c',rfl,Nw.of ho hw,hb⟩

theorem LR {w0:World}(A:Nat)(a:Option Addr)(m c:Nat)(u:World)(hA:A<2^128)(hr:Nw w0 u a m c A):
 Calls Tryz.prog 62 #[.slice a m c] u fun e u'=>e=.returned (.agg #[.int .u64 (M.hiN A:Int),.int .u64 (M.loN A:Int)])/\Below u.heap.size u u':=fC a m c A u hr.len hA hr.rd

theorem LV (x y:Nat)(hx:x<18446744073709551616)(hy:y<18446744073709551616):∃Y,Y<2^128/\M.hiN Y=x/\M.loN Y=y:=
 ⟨x*18446744073709551616+y,by omega,by unfold M.hiN;omega,by unfold M.loN;omega⟩

theorem al0 (v:World)(o:Obj):Below v.heap.size v (v.alloc o):=(Below.refl _ _).alloc (Nat.le_refl _) _

end Go.Proofs.YtfdgkleoaehjaaaGreatDoor
