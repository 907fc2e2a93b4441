import Derived.Lib.OthersKept
import Derived.Laws.RangeAny
import Derived.WalkSmall
import Derived.Test.YtfdgkleoaehjaaaGreatDoorfGAP
set_option maxHeartbeats 1000000
set_option maxRecDepth 100000
namespace Go.Proofs.YtfdgkleoaehjaaaGreatDoor
open Go.RowKit
set_option linter.unusedVariables false
set_option maxRecDepth 100000

def SnV (s:M.Sn)(a:Option Addr)(cap:Nat):Array Value:=#[.bool s.neg,.slice a s.digits.length cap,.int .i64 (s.behind:Int),.bool s.expNeg,.int .i64 (s.exponent:Int)]

def SnR (v:World)(g B:Nat)(s:M.Sn):Prop:=
 g<B/\B<=v.heap.size/\∃a cap,Cls v g (SnV s a cap) 161/\v.ownsRow B 5 1 (.slice a s.digits.length cap) s.digits.length (UB s.digits)

structure KpX (B g:Nat)(v v':World):Prop where
 below:Below g v v'
 keep:∀j,j<B->j≠g->v'.heap[j]? =v.heap[j]?

theorem KpX.refl (B g:Nat)(v:World):KpX B g v v:=⟨Below.refl _ _,fun _ _ _=>rfl⟩

theorem KpX.set {B g:Nat}{w v:World}(h:KpX B g w v)(i:Nat)(x:Value):KpX B g w (v.setCell ⟨g,i,none⟩ x):=
 ⟨h.below.setCell (p:=⟨g,i,none⟩) (Nat.le_refl _) _,fun j hj hne=>by rw[Below.heap_setCell v ⟨g,i,none⟩ x j hne];exact h.keep j hj hne⟩

theorem KpX.alloc {B g:Nat}{w v:World}(h:KpX B g w v)(hB:B<=v.heap.size)(hg:g<=v.heap.size)(o:Obj):KpX B g w (v.alloc o):=
 ⟨h.below.alloc hg _,fun j hj hne=>by rw[Below.heap_alloc v o j (by omega)];exact h.keep j hj hne⟩

theorem KpX.grown {B g:Nat}{w v v':World}{row:Option Nat}(h:KpX B g w v)(hg:v.grownBy v' row)(hB:B<=v.heap.size)(hgB:g<B)(hr:∀j,row=some j->B<=j):KpX B g w v':=
 ⟨h.below.grown hg (by omega) (fun j e=>by have:=hr j e;omega),fun j hj hne=>by rw[hg.block j (by omega) (fun e=>by have:=hr j e.symm;omega)];exact h.keep j hj hne⟩

theorem KpX.trans {B g:Nat}{a b c:World}(h:KpX B g a b)(k:KpX B g b c):KpX B g a c:=⟨h.below.trans k.below,fun j hj hne=>(k.keep j hj hne).trans (h.keep j hj hne)⟩

theorem jS {v:World}{g B n:Nat}{x:Value}{xs:List Value}(h:v.ownsRow B 5 1 x n xs)(hg:g<B)(i:Nat)(y:Value):(v.setCell ⟨g,i,none⟩ y).ownsRow B 5 1 x n xs:=bM h ⟨g,i,none⟩ hg y

theorem KV (g B st c:Nat)(s:M.Sn)(v:World)(h:SnR v g B s)(h1:s.digits.length<=1000)(h2:s.behind<=1000)(h3:s.exponent<=1000000)(hst:2<=st/\st<=9)(hc:c<=2147483647)(hd:st=3\/st=6\/st=9->48<=c/\c<=57):
 Calls Tryz.prog 122 #[.pointer (some ⟨g,0,none⟩),.int .i64 (st:Int),.int .i32 (c:Int)] v fun e v'=>e=.returned (.tuple #[])/\SnR v' g B (M.take st c s)/\KpX B g v v':=by
 obtain⟨hgB,hBv,a,cap,hC,hO⟩:=h;have c0:=hC.cell 0 (x:=.bool s.neg) rfl;have c1:=hC.cell 1 (x:=.slice a s.digits.length cap) rfl;have c2:=hC.cell 2 (x:=.int .i64 (s.behind:Int)) rfl;have c3:=hC.cell 3 (x:=.bool s.expNeg) rfl;have c4:=hC.cell 4 (x:=.int .i64 (s.exponent:Int)) rfl;have f0:=hC.frozen 0;have f1:=hC.frozen 1;have f2:=hC.frozen 2;have f3:=hC.frozen 3;have f4:=hC.frozen 4;have CH:=hid hC;have OH:=hid hO;clear hC hO;rcases(show st=2\/st=3\/st=4\/st=5\/st=6\/st=7\/st=8\/st=9 by omega)with rfl|rfl|rfl|rfl|rfl|rfl|rfl|rfl
 . go_enter Tryz.func122,Tryz.ntmps122;go_wp2_with fail
   go_end0
   refine⟨rfl,⟨hgB,by simpa using hBv,a,cap,?_,jS OH.out hgB 0 _⟩,(KpX.refl _ _ _).set 0 _⟩;rw[show((c:Int)==45)=decide (c=45) by rw[Bool.eq_iff_iff];simp;omega];exact CH.out.set 0 _ _ rfl
 . obtain⟨hd1,hd2⟩:=hd (by omega);clear hd;have hw8:IntKind.u8.wrap (c:Int)=(c:Int):=by simp[IntKind.wrap,IntKind.bits,IntKind.signed];omega
   have C2:=CH.out;have O2:=OH.out;have K2:=KpX.refl B g v;have hsz2:v.heap.size=v.heap.size:=rfl;have O3:=O2.alloc (.cells #[.int .u8 (c:Int)] 5)
   have rS:RdB (v.alloc (.cells #[.int .u8 (c:Int)] 5)) (some ⟨v.heap.size,0,none⟩) [c]:=by
    refine⟨fun x hx=>by simp at hx;omega,fun _=>⟨v.heap.size,0,rfl,fun i hi=>?_⟩⟩
    obtain rfl:i=0:=by simp at hi;exact hi
    have:=(Cls.new v #[.int .u8 (c:Int)] 5).cell 0 (x:=.int .u8 (c:Int)) rfl;rw[hsz2]at this;exact this
   have C3:=C2.below ((Below.refl _ _).alloc (Nat.le_refl _) (.cells #[.int .u8 (c:Int)] 5));have K3:=K2.alloc (by rw[hsz2];exact hBv) (by rw[hsz2];omega) (.cells #[.int .u8 (c:Int)] 5);have hsz3:(v.alloc (.cells #[.int .u8 (c:Int)] 5)).heap.size=v.heap.size+1:=by rw[World.size_alloc,hsz2]
   have HC2:=hid C2;have HO2:=hid O2;have HK2:=hid K2;have HO3:=hid O3;have HRS:=hid rS;have HC3:=hid C3;have HK3:=hid K3;have HS2:=hid hsz2;have HS3:=hid hsz3;clear C2 O2 K2 O3 rS C3 K3 hsz2 hsz3;go_enter Tryz.func122,Tryz.ntmps122
   go_wp2_with (at_builtin;refine dC rfl _ _ rfl (v.alloc (.cells #[.int .u8 (c:Int)] 5)) B (.slice a s.digits.length cap) s.digits.length s.digits rfl HO3.out (some ⟨v.heap.size,0,none⟩) 1 1 [c] rfl rfl (fun e=>by cases e) HRS.out (by omega) (by rw[HS3.out];omega) ?_)
   intro ra rc w3 own3 gr3
   have hpl:=fun j e=>bU HO3.out (j:=j) e
   have C4:=HC3.out.grown gr3 (fun e=>by have:=hpl g e.symm;omega)
   have K4:=HK3.out.grown gr3 (by rw[HS3.out];omega) hgB hpl;have hs4:=gr3.size;rw[HS3.out]at hs4;have d1:=C4.cell 1 (x:=.slice a s.digits.length cap) rfl;have e1:=C4.frozen 1;have HC4:=hid C4;have HK4:=hid K4;have HOW:=hid own3;clear C4 K4 own3 gr3 hpl;go_wp2_with fail
   go_end0
   refine⟨rfl,⟨hgB,by simp;omega,ra,rc,?_,?_⟩,HK4.out.set 1 _⟩
   . have e:(M.take 3 c s).digits.length=s.digits.length+1:=by simp[M.take]
     unfold SnV;rw[e];exact HC4.out.set 1 _ _ rfl
   . have e:(M.take 3 c s).digits=s.digits++[c]:=rfl;have e2:(s.digits++[c]).length=s.digits.length+1:=by simp
     rw[e,e2];exact jS HOW.out hgB 1 _
 . go_enter Tryz.func122,Tryz.ntmps122;go_wp2_with fail
   go_end0
   exact⟨rfl,⟨hgB,hBv,a,cap,CH.out,OH.out⟩,KpX.refl _ _ _⟩
 . go_enter Tryz.func122,Tryz.ntmps122;go_wp2_with fail
   go_end0
   exact⟨rfl,⟨hgB,hBv,a,cap,CH.out,OH.out⟩,KpX.refl _ _ _⟩
 . obtain⟨hd1,hd2⟩:=hd (by omega);clear hd;have hw8:IntKind.u8.wrap (c:Int)=(c:Int):=by simp[IntKind.wrap,IntKind.bits,IntKind.signed];omega
   have C2:=CH.out.set 2 (.int .i64 ((s.behind:Int)+1)) #[.bool s.neg,.slice a s.digits.length cap,.int .i64 ((s.behind:Int)+1),.bool s.expNeg,.int .i64 (s.exponent:Int)] rfl;have O2:=jS OH.out hgB 2 (.int .i64 ((s.behind:Int)+1));have K2:=(KpX.refl B g v).set 2 (.int .i64 ((s.behind:Int)+1));have hsz2:(v.setCell ⟨g,2,none⟩ (.int .i64 ((s.behind:Int)+1))).heap.size=v.heap.size:=by simp
   have O3:=O2.alloc (.cells #[.int .u8 (c:Int)] 5)
   have rS:RdB ((v.setCell ⟨g,2,none⟩ (.int .i64 ((s.behind:Int)+1))).alloc (.cells #[.int .u8 (c:Int)] 5)) (some ⟨v.heap.size,0,none⟩) [c]:=by
    refine⟨fun x hx=>by simp at hx;omega,fun _=>⟨v.heap.size,0,rfl,fun i hi=>?_⟩⟩
    obtain rfl:i=0:=by simp at hi;exact hi
    have:=(Cls.new (v.setCell ⟨g,2,none⟩ (.int .i64 ((s.behind:Int)+1))) #[.int .u8 (c:Int)] 5).cell 0 (x:=.int .u8 (c:Int)) rfl;rw[hsz2]at this;exact this
   have C3:=C2.below ((Below.refl _ _).alloc (Nat.le_refl _) (.cells #[.int .u8 (c:Int)] 5));have K3:=K2.alloc (by rw[hsz2];exact hBv) (by rw[hsz2];omega) (.cells #[.int .u8 (c:Int)] 5);have hsz3:((v.setCell ⟨g,2,none⟩ (.int .i64 ((s.behind:Int)+1))).alloc (.cells #[.int .u8 (c:Int)] 5)).heap.size=v.heap.size+1:=by rw[World.size_alloc,hsz2]
   have HC2:=hid C2;have HO2:=hid O2;have HK2:=hid K2;have HO3:=hid O3;have HRS:=hid rS;have HC3:=hid C3;have HK3:=hid K3;have HS2:=hid hsz2;have HS3:=hid hsz3;clear C2 O2 K2 O3 rS C3 K3 hsz2 hsz3;go_enter Tryz.func122,Tryz.ntmps122
   go_wp2_with (at_builtin;refine dC rfl _ _ rfl ((v.setCell ⟨g,2,none⟩ (.int .i64 ((s.behind:Int)+1))).alloc (.cells #[.int .u8 (c:Int)] 5)) B (.slice a s.digits.length cap) s.digits.length s.digits rfl HO3.out (some ⟨v.heap.size,0,none⟩) 1 1 [c] rfl rfl (fun e=>by cases e) HRS.out (by omega) (by rw[HS3.out];omega) ?_)
   intro ra rc w3 own3 gr3
   have hpl:=fun j e=>bU HO3.out (j:=j) e
   have C4:=HC3.out.grown gr3 (fun e=>by have:=hpl g e.symm;omega)
   have K4:=HK3.out.grown gr3 (by rw[HS3.out];omega) hgB hpl;have hs4:=gr3.size;rw[HS3.out]at hs4;have d1:=C4.cell 1 (x:=.slice a s.digits.length cap) rfl;have e1:=C4.frozen 1;have HC4:=hid C4;have HK4:=hid K4;have HOW:=hid own3;clear C4 K4 own3 gr3 hpl;go_wp2_with fail
   go_end0
   refine⟨rfl,⟨hgB,by simp;omega,ra,rc,?_,?_⟩,HK4.out.set 1 _⟩
   . have e:(M.take 6 c s).digits.length=s.digits.length+1:=by simp[M.take]
     unfold SnV;rw[e];exact HC4.out.set 1 _ _ rfl
   . have e:(M.take 6 c s).digits=s.digits++[c]:=rfl;have e2:(s.digits++[c]).length=s.digits.length+1:=by simp
     rw[e,e2];exact jS HOW.out hgB 1 _
 . go_enter Tryz.func122,Tryz.ntmps122;go_wp2_with fail
   go_end0
   exact⟨rfl,⟨hgB,hBv,a,cap,CH.out,OH.out⟩,KpX.refl _ _ _⟩
 . go_enter Tryz.func122,Tryz.ntmps122;go_wp2_with fail
   go_end0
   refine⟨rfl,⟨hgB,by simpa using hBv,a,cap,?_,jS OH.out hgB 3 _⟩,(KpX.refl _ _ _).set 3 _⟩;rw[show((c:Int)==45)=decide (c=45) by rw[Bool.eq_iff_iff];simp;omega];exact CH.out.set 3 _ _ rfl
 . obtain⟨hd1,hd2⟩:=hd (.inr (.inr rfl));clear hd;have hsub:((c:Int)-48)=((c-48:Nat):Int):=by omega
   by_cases hmx:(s.exponent:Int)*10+((c:Int)-48)<=1000000
   . go_enter Tryz.func122,Tryz.ntmps122;go_wp2_with fail
     go_end0
     refine⟨rfl,⟨hgB,by simpa using hBv,a,cap,?_,jS OH.out hgB 4 _⟩,(KpX.refl _ _ _).set 4 _⟩
     have e:((M.take 9 c s).exponent:Int)=(s.exponent:Int)*10+((c-48:Nat):Int):=by
      show((min (s.exponent*10+(c-48)) 1000000:Nat):Int)=_
      omega
     first|(rw[<-e];exact CH.out.set 4 _ _ rfl)|(rw[Int.min_eq_left (by omega),<-e];exact CH.out.set 4 _ _ rfl)
   . go_enter Tryz.func122,Tryz.ntmps122;go_wp2_with fail
     go_end0
     refine⟨rfl,⟨hgB,by simpa using hBv,a,cap,?_,jS OH.out hgB 4 _⟩,(KpX.refl _ _ _).set 4 _⟩
     have e:((M.take 9 c s).exponent:Int)=1000000:=by
      show((min (s.exponent*10+(c-48)) 1000000:Nat):Int)=_
      omega
     first|(rw[<-e];exact CH.out.set 4 _ _ rfl)|(rw[Int.min_eq_right (by omega),<-e];exact CH.out.set 4 _ _ rfl)

def OwnV (w:World)(lo:Nat)(v:Value)(xs:List Nat):Prop:=
 ∃a c,v=.slice a xs.length c/\xs.length<=c/\c<=9223372036854775807/\(a=none->c=0)/\(∀x∈xs,x<256)/\
  (0<xs.length->∃b off cur,a=some ⟨b,off,none⟩/\lo<=b/\w.heap[b]? =some (.cells cur 5)/\∀i,i<xs.length->cur[off+i]? =some (.int .u8 ((xs.getD i 0:Nat):Int)))

theorem l9 (bs:List Nat)(p:Nat)(h:p<bs.length):bs.drop p=bs.getD p 0::bs.drop (p+1):=by
 rw[List.drop_eq_getElem_cons h,List.getD_eq_getElem?_getD,List.getElem?_eq_getElem h];rfl

theorem OwnV.rd {w:World}{lo:Nat}{a:Option Addr}{c:Nat}{xs:List Nat}(h:OwnV w lo (.slice a xs.length c) xs):RdB w a xs:=by
 obtain⟨a',c',e,_,_,_,hx,h2⟩:=h;cases e
 refine⟨hx,fun hp=>?_⟩
 obtain⟨b,off,cur,e1,_,hb,hc⟩:=h2 hp
 exact⟨b,off,e1,fun i hi=>by rw[cell_of_row w b (off+i) _ _ (0,0) hb,hc i hi]⟩

theorem OwnV.below {w w':World}{lo:Nat}{v:Value}{xs:List Nat}(h:OwnV w lo v xs)(hb:Below w.heap.size w w'):OwnV w' lo v xs:=by
 obtain⟨a,c,e,h1,h2,h3,h4,h5⟩:=h
 refine⟨a,c,e,h1,h2,h3,h4,fun hp=>?_⟩
 obtain⟨b,off,cur,e1,e2,e3,e4⟩:=h5 hp;exact⟨b,off,cur,e1,e2,(hb.block b (Array.getElem?_eq_some_iff.1 e3).1).trans e3,e4⟩

theorem OwnV.far {w:World}{lo:Nat}{v:Value}{xs:List Nat}(h:OwnV w lo v xs)(p:Addr)(hp:p.block<lo)(x:Value):OwnV (w.setCell p x) lo v xs:=by
 obtain⟨a,c,e,h1,h2,h3,h4,h5⟩:=h
 refine⟨a,c,e,h1,h2,h3,h4,fun hq=>?_⟩
 obtain⟨b,off,cur,e1,e2,e3,e4⟩:=h5 hq;exact⟨b,off,cur,e1,e2,by rw[Below.heap_setCell w p x b (by omega)];exact e3,e4⟩

theorem OwnV.low {w:World}{lo lo':Nat}{v:Value}{xs:List Nat}(h:OwnV w lo v xs)(hl:lo'<=lo):OwnV w lo' v xs:=by
 obtain⟨a,c,e,h1,h2,h3,h4,h5⟩:=h
 refine⟨a,c,e,h1,h2,h3,h4,fun hp=>?_⟩
 obtain⟨b,off,cur,e1,e2,e3,e4⟩:=h5 hp;exact⟨b,off,cur,e1,Nat.le_trans hl e2,e3,e4⟩

theorem OwnV.of_own {w:World}{B n c:Nat}{a:Option Addr}{bs:List Nat}(h:w.ownsRow B 5 1 (.slice a n c) n (UB bs))(hb:∀x∈bs,x<256):OwnV w B (.slice a n c) bs:=by
 have hl:=gE h;subst hl
 refine⟨a,c,rfl,jE h,rV h,pF h,hb,fun hp=>?_⟩
 rcases h.2 with⟨e,h0⟩|⟨g,cap,cur,e,h1,h2,h3,h4,h5,h6⟩
 . omega
 . simp only[Value.slice.injEq]at e;obtain⟨rfl,_,rfl⟩:=e
   refine⟨g,0,cur,rfl,h1,h2,fun i hi=>?_⟩
   rw[Nat.zero_add,<-eJ bs i hi,<-h6,Nat.mul_one,List.getElem?_take_of_lt hi,Array.getElem?_toList]

theorem OwnV.nil (w:World)(lo:Nat):OwnV w lo (.slice none 0 0) []:=⟨none,0,rfl,by simp,by omega,fun _=>rfl,fun x hx=>by simp at hx,fun hp=>by simp at hp⟩

theorem OwnV.tail1 {w:World}{lo b off c:Nat}{x:Nat}{r:List Nat}(h:OwnV w lo (.slice (some ⟨b,off,none⟩) (r.length+1) c) (x::r)):OwnV w lo (.slice (if c=1 then some ⟨b,off,none⟩else some ⟨b,off+1,none⟩) r.length (c-1)) r:=by
 obtain⟨a,c',e,h1,h2,h3,h4,h5⟩:=h;cases e;rw[List.length_cons]at h1
 have kn:(if c=1 then some (⟨b,off,none⟩:Addr)else some ⟨b,off+1,none⟩)≠none:=by split<;>simp
 refine⟨_,_,rfl,by omega,by omega,fun h=>absurd h kn,fun y hy=>h4 y (List.mem_cons_of_mem _ hy),fun hp=>?_⟩
 obtain⟨b',off',cur,e1,e2,e3,e4⟩:=h5 (by simp);cases e1;rw[if_neg (by omega)]
 refine⟨b,off+1,cur,rfl,e2,e3,fun i hi=>?_⟩
 have:=e4 (i+1) (by simp;omega);rw[show off+1+i=off+(i+1) by omega,this]
 rfl

theorem OwnV.front1 {w:World}{lo c:Nat}{a:Option Addr}{x:Nat}{r:List Nat}(h:OwnV w lo (.slice a (r.length+1) c) (r++[x])):OwnV w lo (.slice a r.length c) r:=by
 obtain⟨a',c',e,h1,h2,h3,h4,h5⟩:=h;simp only[Value.slice.injEq]at e;obtain⟨rfl,_,rfl⟩:=e;rw[List.length_append,List.length_singleton]at h1
 refine⟨_,_,rfl,by omega,h2,h3,fun y hy=>h4 y (List.mem_append_left _ hy),fun hp=>?_⟩
 obtain⟨b,off,cur,e1,e2,e3,e4⟩:=h5 (by simp)
 refine⟨b,off,cur,e1,e2,e3,fun i hi=>?_⟩
 rw[e4 i (by simp;omega)]
 simp[List.getD_eq_getElem?_getD,List.getElem?_append_left hi]

def tlV (a:Option Addr)(c:Nat)(xs:List Nat):Value:=
 if M.aT xs=[]then .slice none 0 0 else match a with
  |some p=> .slice (some ⟨p.block,p.off+(xs.length-(M.aT xs).length),none⟩) (M.aT xs).length (c-(xs.length-(M.aT xs).length))
  |none=> .slice none 0 0

theorem uQ (xs:List Nat):(M.aT xs).length<=xs.length:=(List.dropWhile_suffix _).length_le

theorem BO (xs:List Nat):M.aT xs=xs.drop (xs.length-(M.aT xs).length):=by
 have h:M.aT xs<:+xs:=List.dropWhile_suffix _;exact List.suffix_iff_eq_drop.1 h

theorem s8 (xs:List Nat):M.cL xs=xs.take (M.cL xs).length:=by
 have h:(xs.reverse.dropWhile (fun c=>decide (c=48)))<:+xs.reverse:=List.dropWhile_suffix _
 have h2:M.cL xs<+:xs:=by
  unfold M.cL;have:=List.reverse_prefix.2 h
  rwa[List.reverse_reverse]at this
 exact List.prefix_iff_eq_take.1 h2

theorem uF (xs:List Nat):(M.cL xs).length<=xs.length:=by
 have:=congrArg List.length (s8 xs);rw[List.length_take]at this;omega

theorem OwnV.tl {w:World}{lo c:Nat}{a:Option Addr}{xs:List Nat}(h:OwnV w lo (.slice a xs.length c) xs):OwnV w lo (tlV a c xs) (M.aT xs):=by
 unfold tlV
 by_cases e:M.aT xs=[]
 . rw[if_pos e,e];exact OwnV.nil _ _
 . rw[if_neg e];have hl:=uQ xs;have hd:=BO xs;have hp:0<(M.aT xs).length:=List.length_pos_iff.2 e;obtain⟨a',c',ee,h1,h2,h3,h4,h5⟩:=h;cases ee;obtain⟨b,off,cur,rfl,e2,e3,e4⟩:=h5 (by omega)
   refine⟨_,_,rfl,by omega,by omega,(fun h=>by cases h),fun y hy=>h4 y (by rw[hd]at hy;exact List.mem_of_mem_drop hy),fun _=>⟨b,_,cur,rfl,e2,e3,fun i hi=>?_⟩⟩
   rw[Nat.add_assoc,e4 _ (by omega)]
   conv=>rhs;rw[hd]
   simp[List.getD_eq_getElem?_getD,List.getElem?_drop]

theorem OwnV.tr {w:World}{lo c:Nat}{a:Option Addr}{xs:List Nat}(h:OwnV w lo (.slice a xs.length c) xs):OwnV w lo (.slice a (M.cL xs).length c) (M.cL xs):=by
 have hl:=uF xs;have hd:=s8 xs;obtain⟨a',c',ee,h1,h2,h3,h4,h5⟩:=h;cases ee
 refine⟨_,_,rfl,by omega,h2,h3,fun y hy=>h4 y (by rw[hd]at hy;exact List.mem_of_mem_take hy),fun hp=>?_⟩
 obtain⟨b,off,cur,e1,e2,e3,e4⟩:=h5 (by omega)
 refine⟨b,off,cur,e1,e2,e3,fun i hi=>?_⟩
 rw[e4 i (by omega)]
 conv=>rhs;rw[hd]
 rw[List.getD_eq_getElem?_getD,List.getD_eq_getElem?_getD,List.getElem?_take_of_lt hi]

theorem BI (a:Option Addr)(n c:Nat)(xs:List Nat)(w:World)(hl:xs.length=n)(hcap:n<=c)(h:RdB w a xs)(x:Value)(hx:x=tlV a c xs):
 Calls Tryz.prog 178 #[.slice a n c,.int .u8 48] w fun e w'=>e=.returned x/\w'=w:=by
 subst hl;have HX:=hid hx;clear hx;go_enter Tryz.func178,Tryz.ntmps178;go_wp2_with fail
 go_loopw [0] (fun ov wr=>∃(k:Nat)(a':Option Addr),k<=xs.length/\ov=.slice a' (xs.length-k) (c-k)/\(k<xs.length->a'=a.map fun p=>⟨p.block,p.off+k,none⟩)/\M.aT xs=M.aT (xs.drop k)/\wr=w) (fun ov _=>eO ov)
 case atStart=>exact⟨0,a,by omega,rfl,fun hp=>by obtain⟨b,off,e,_⟩:=h.2 hp;rw[e];rfl,by rw[List.drop_zero],rfl⟩
 case round=>
  obtain⟨k,a',hk,rfl,h4,h5,rfl⟩:=hrel;have H5:=hid h5;clear h5
  by_cases hlt:k<xs.length
  . obtain⟨b2,o2,hbo,hc2⟩:=h.2 (by omega);have hck:=hc2 k hlt;have ha':=h4 hlt;subst hbo;simp only[Option.map_some]at ha';subst ha';obtain⟨m,hm⟩:∃m,xs.length-k=m+1:=⟨xs.length-k-1,by omega⟩;have hdr:=l9 xs k hlt;rw[hm];have hpos:(0:Int)<((m+1:Nat):Int):=by omega
    have hne0:(((m+1:Nat):Int)==0)=false:=by rw[beq_eq_false_iff_ne];omega
    have hcc:m+1<=c-k:=by omega
    have H:=hid h;have HDR:=hid hdr;have HM:=hid hm;clear h hc2 h4 hdr hm;generalize hxk:xs.getD k 0=y at*
    by_cases hy:y=48
    . subst hy;go_wp2_with fail
      refine⟨⟨k+1,_,by omega,by rw[show xs.length-(k+1)=m by have:=HM.out;omega,show c-(k+1)=c-k-1 by omega],fun hq=>?_,by rw[H5.out,HDR.out,yU],by first|rfl|trivial⟩,by simp[eO]⟩
      rw[if_neg (by have:=HM.out;omega)]
      rfl
    . have hy':((y:Int)==48)=false:=by rw[beq_eq_false_iff_ne];omega
      have HY:=hid hy;clear hy;go_wp2_with fail;go_ret;refine⟨?_,rfl⟩;rw[HX.out];have e:M.aT xs=xs.drop k:=by rw[H5.out,HDR.out,zI _ HY.out]
      have e2:(M.aT xs).length=m+1:=by rw[e,List.length_drop];exact HM.out
      have e3:xs.length-(M.aT xs).length=k:=by have:=HM.out;omega
      unfold tlV
      rw[if_neg (fun q=>by rw[q]at e2;simp at e2),e3,e2]
      rfl
  . have e:k=xs.length:=by omega
    subst e;have hnil:M.aT xs=[]:=by rw[H5.out,List.drop_length];rfl
    have HN:=hid hnil;clear hnil h4;rw[Nat.sub_self];go_wp2_with fail;go_ret;refine⟨?_,rfl⟩;rw[HX.out];unfold tlV;rw[if_pos HN.out]
    rfl

theorem CA (a:Option Addr)(n c:Nat)(xs:List Nat)(w:World)(hl:xs.length=n)(hn:n<=10000)(hcap:n<=c)(h:RdB w a xs)(m:Nat)(hm:m=(M.cL xs).length):
 Calls Tryz.prog 182 #[.slice a n c,.int .u8 48] w fun e w'=>e=.returned (.slice a m c)/\w'=w:=by
 subst hl;have HM:=hid hm;clear hm;go_enter Tryz.func182,Tryz.ntmps182;go_wp2_with fail
 go_loopw [0] (fun ov wr=>∃(ys:List Nat),ov=.slice a ys.length c/\ys.length<=10000/\ys.length<=c/\RdB w a ys/\M.cL xs=M.cL ys/\wr=w) (fun ov _=>eO ov)
 case atStart=>exact⟨xs,rfl,hn,hcap,h,rfl,rfl⟩
 case round=>
  obtain⟨ys,rfl,hyl,hyc,hrd,h5,rfl⟩:=hrel;have H5:=hid h5;clear h5;rcases y9 ys with rfl|⟨q,x,rfl⟩
  . clear hrd;go_wp2_with fail;go_ret;exact⟨by rw[HM.out,H5.out];rfl,rfl⟩
  . obtain⟨b2,o2,hbo,hc2⟩:=hrd.2 (by simp);subst hbo;have hck:=hc2 q.length (by simp);rw[show(q++[x]).getD q.length 0=x by simp]at hck;have hql:(q++[x]).length=q.length+1:=by simp
    rw[hql]at hyl hyc|-;have hpos:(0:Int)<((q.length+1:Nat):Int):=by omega
    have hm1:((q.length+1:Nat):Int)-1=(q.length:Int):=by omega
    have hcc2:q.length<=c:=by omega
    have HRD:=hid hrd;clear hc2 hrd
    by_cases hx:x=48
    . subst hx;clear hql;go_wp2_with fail;refine⟨⟨q,rfl,by omega,by omega,?_,by rw[H5.out,yC],by first|rfl|trivial⟩,by simp[eO]⟩;have:=HRD.out.front q.length
      rwa[List.take_left]at this
    . have hx':((x:Int)==48)=false:=by rw[beq_eq_false_iff_ne];omega
      have HX:=hid hx;have HQ:=hid hql;clear hx hql;go_wp2_with fail;go_ret;have e:(M.cL xs).length=q.length+1:=by rw[H5.out,x8 q HX.out,HQ.out]
      exact⟨by rw[HM.out,e];rfl,rfl⟩

theorem D5 (a:Option Addr)(n c:Nat)(xs:List Nat)(w:World)(hl:xs.length=n)(hcap:n<=c)(h:RdB w a xs)(x:Value)(hx:x=tlV a c xs):
 Calls Tryz.prog 163 #[.slice a n c,.string ⟨#[48]⟩] w fun e w'=>e=.returned x/\w'=w:=by
 subst hl;have k:=BI a xs.length c xs w rfl hcap h x hx;have HX:=hid hx;clear h hx
 by_cases h0:xs=[]
 . subst h0;clear k;go_enter Tryz.func163,Tryz.ntmps163;go_wp2_with fail;go_ret;exact⟨by rw[HX.out];rfl,rfl⟩
 . have h0':(((xs.length:Nat):Int)==0)=false:=by
    rw[beq_eq_false_iff_ne]
    have:xs.length≠0:=fun e=>h0 (List.length_eq_zero_iff.1 e)
    omega
   go_enter Tryz.func163,Tryz.ntmps163;go_wp2_with fail;refine Calls.mono (k) ?_;rintro e w1 ⟨rfl,rfl⟩;go_wp2_with fail;go_ret;exact⟨rfl,rfl⟩

theorem EV (a:Option Addr)(n c:Nat)(xs:List Nat)(w:World)(hl:xs.length=n)(hn:n<=10000)(hcap:n<=c)(h:RdB w a xs)(m:Nat)(hm:m=(M.cL xs).length):
 Calls Tryz.prog 164 #[.slice a n c,.string ⟨#[48]⟩] w fun e w'=>e=.returned (.slice a m c)/\w'=w:=by
 subst hl;have k:=CA a xs.length c xs w rfl hn hcap h m hm;have HM:=hid hm;clear h hm
 by_cases h0:xs=[]
 . subst h0;clear k;go_enter Tryz.func164,Tryz.ntmps164;go_wp2_with fail;go_ret;exact⟨by rw[HM.out];rfl,rfl⟩
 . have h0':(((xs.length:Nat):Int)==0)=false:=by
    rw[beq_eq_false_iff_ne]
    have:xs.length≠0:=fun e=>h0 (List.length_eq_zero_iff.1 e)
    omega
   go_enter Tryz.func164,Tryz.ntmps164;go_wp2_with fail;refine Calls.mono (k) ?_;rintro e w1 ⟨rfl,rfl⟩;go_wp2_with fail;go_ret;exact⟨rfl,rfl⟩

def bV (a:Option Addr)(c:Nat)(xs:List Nat):Value:=
 if M.bJ xs=[]then .slice none 0 0 else match tlV a c xs with
  | .slice a' _ c'=> .slice a' (M.bJ xs).length c'
  |v=>v

theorem OwnV.bv {w:World}{lo c:Nat}{a:Option Addr}{xs:List Nat}(h:OwnV w lo (.slice a xs.length c) xs):OwnV w lo (bV a c xs) (M.bJ xs):=by
 unfold bV
 by_cases e:M.bJ xs=[]
 . rw[if_pos e,e];exact OwnV.nil _ _
 . rw[if_neg e];have ht:=h.tl;obtain⟨a1,c1,e1,_⟩:=id ht;rw[e1]at ht|-;exact ht.tr

theorem zB (lo:Nat)(a:Option Addr)(n c:Nat)(xs:List Nat)(x:Int)(w:World)(hl:xs.length=n)(hn:n<=10000)(hx:-2000000<=x/\x<=2000000)(h:OwnV w lo (.slice a n c) xs):
 Calls Tryz.prog 146 #[.slice a n c,.int .i64 x] w fun e w'=>e=.returned (.tuple #[bV a c xs,.int .i64 (M.iJ xs x)])/\w'=w:=by
 subst hl;have hcap:xs.length<=c:=by obtain⟨_,_,e,h1,_⟩:=h;cases e;exact h1
 have k1:=D5 a xs.length c xs w rfl hcap h.rd _ rfl;have hll:=uQ xs;have hv1:=h.tl;obtain⟨a1,c1,e1,hc1,_⟩:=id hv1;rw[e1]at hv1 k1;have k2:=EV a1 (M.aT xs).length c1 (M.aT xs) w rfl (by omega) hc1 hv1.rd _ rfl;have hE:M.iJ xs x=if M.bJ xs=[]then 0 else x+(M.aT xs).length-(M.bJ xs).length:=rfl;have hB:bV a c xs=if M.bJ xs=[]then .slice none 0 0 else .slice a1 (M.bJ xs).length c1:=by unfold bV;rw[e1]
 have hD:M.cL (M.aT xs)=M.bJ xs:=rfl;have hdl:=uF (M.aT xs);rw[hD]at k2 hdl;go_enter Tryz.func146,Tryz.ntmps146;go_wp2_with fail;refine k1.mono ?_;rintro e w1 ⟨rfl,rfl⟩;go_wp2_with fail;refine k2.mono ?_;rintro e w2 ⟨rfl,rfl⟩
 by_cases hz:M.bJ xs=[]
 . have hE0:M.iJ xs x=0:=by rw[hE,if_pos hz]
   have hB0:bV a c xs=.slice none 0 0:=by rw[hB,if_pos hz]
   have hz0:(M.bJ xs).length=0:=by rw[hz];rfl
   have HE:=hid hE0;have HB:=hid hB0;clear hE hE0 hB hB0 hv1 k1 k2 e1 h hz hD;rw[hz0];go_wp2_with fail
   go_ret2
   exact⟨by rw[HE.out,HB.out];rfl,rfl⟩
 . have hz0:(((M.bJ xs).length:Int)==0)=false:=by
    rw[beq_eq_false_iff_ne]
    have:(M.bJ xs).length≠0:=fun e=>hz (List.length_eq_zero_iff.1 e)
    omega
   have hE0:M.iJ xs x=x+(M.aT xs).length-(M.bJ xs).length:=by rw[hE,if_neg hz]
   have hB0:bV a c xs=.slice a1 (M.bJ xs).length c1:=by rw[hB,if_neg hz]
   have HE:=hid hE0;have HB:=hid hB0;clear hE hE0 hB hB0 hv1 k1 k2 e1 h hz hD;generalize(M.bJ xs).length=nd at*;generalize(M.aT xs).length=nl at*;go_wp2_with fail
   go_ret2
   exact⟨by rw[HE.out,HB.out];rfl,rfl⟩

def Fol (w:World):Prop:= 1<w.heap.size/\∀st so,st<10->so<6->w.cell? ⟨1,st*6+so,none⟩=some (.int .i64 (M.next st so:Int))

theorem Fol.below {w w':World}(h:Fol w)(hb:Below w.heap.size w w'):Fol w':=
 ⟨Nat.lt_of_lt_of_le h.1 hb.size,fun st so h1 h2=>(hb.cell (p:=⟨1,st*6+so,none⟩) h.1).trans (h.2 st so h1 h2)⟩

def NT (w w':World)(e:Ending):M.Dec⊕Nat->Prop
 | .inl d=>∃v,e=.returned (rR d v)/\OwnV w' w.heap.size v d.digits/\Below w.heap.size w w'
 | .inr k=>e=.panicked [{ v:=.iface 136 (.agg #[.int .i64 (k:Int)]),recovered:=false }]/\Below w.heap.size w w'

theorem MQ (c:Nat):M.aF c<6:=by
 have h:=M.aQ (M.low c) (M.gA c);rw[M.gG]at h;omega

theorem pH (c:Nat)(h:128<=c):M.aF c=0:=by
 have:M.low c=c:=by unfold M.low;rw[if_neg (by omega)]
 unfold M.aF;rw[this,if_neg (by omega),if_neg (by omega),if_neg (by omega),if_neg (by omega),if_neg (by omega)]

theorem BK {st so:Nat}(h:M.next st so=3\/M.next st so=6\/M.next st so=9):so=1:=by
 unfold M.next at h
 split at h<;>omega

theorem I0 {st so:Nat}(h1:1<=st)(h:M.next st so≠0):2<=M.next st so:=by
 unfold M.next at h|-
 split at h<;>omega

theorem tO {c:Nat}(h:M.aF c=1):48<=c/\c<=57:=by
 have hc:=M.aQ (M.low c) (M.gA c);rw[M.gG]at hc
 have:M.low c=c\/M.low c=c+32:=by unfold M.low;split<;>omega
 have k:M.low c=c+32->65<=c:=by unfold M.low;split<;>omega
 omega

theorem jC (s:ByteArray):(aX s).length=s.size:=by unfold aX;rw[List.length_map,Array.length_toList];rfl

theorem yW (s:ByteArray)(i:Nat)(h:i<s.size):(aX s).getD i 0=(s[i]'h).toNat:=by
 unfold aX;have:i<s.data.toList.length:=by rw[Array.length_toList];exact h
 rw[List.getD_eq_getElem?_getD,List.getElem?_map,List.getElem?_eq_getElem this]
 rfl

theorem qJ (wr:World)(k:Nat)(s:ByteArray)(pos:Nat)(hk:wr.heap[k]? =some (.stringIter s pos))(h:pos<s.size):
 ∃(l p':Nat),(∀ty,(Instr.next (.pointer (some ⟨k,0,none⟩)) true ty).run Tryz.prog wr=.ok (.tuple #[.bool true,.int .i64 pos,.int .i32 (l:Int)]) (wr.iterAt k s p'))/\l<=2147483647/\
  (((aX s).getD pos 0<128/\l=(aX s).getD pos 0/\p'=pos+1)\/(128<=(aX s).getD pos 0/\128<=l/\pos<p')):=by
 refine⟨(Utf8.decode s pos).1,pos+(Utf8.decode s pos).2,fun ty=>Lib.run_next_any_at wr k s pos ty hk h,decode_le s pos,?_⟩
 rw[yW s pos h]
 by_cases c:(s[pos]'h).toNat<128
 . rw[decode_ascii s pos h c];exact .inl ⟨c,rfl,rfl⟩
 . have:=decode_high s pos h (by omega);exact .inr ⟨by omega,this.1,by omega⟩

theorem SnR.below {v v':World}{g B:Nat}{sn:M.Sn}(h:SnR v g B sn)(hb:Below v.heap.size v v'):SnR v' g B sn:=by
 obtain⟨h1,h2,a,cap,hC,hO⟩:=h;exact⟨h1,Nat.le_trans h2 hb.size,a,cap,hC.below hb,jJ hO hb⟩

theorem SnR.iterAt {v:World}{g B:Nat}{sn:M.Sn}(h:SnR v g B sn)(k:Nat)(hk:k<B)(hg:k≠g)(s:ByteArray)(p:Nat):SnR (v.iterAt k s p) g B sn:=by
 obtain⟨h1,h2,a,cap,hC,hO⟩:=h;refine⟨h1,by simpa[World.iterAt]using h2,a,cap,?_,ownsRow_iterAt hO (k:=k) (by omega) s p⟩;unfold Cls at hC|-;simp only[World.iterAt];rw[Array.getElem?_setIfInBounds_ne (by omega)];exact hC

theorem Cls.iterAt {v:World}{g:Nat}{xs:Array Value}{t:TypeId}(h:Cls v g xs t)(k:Nat)(hg:k≠g)(s:ByteArray)(p:Nat):Cls (v.iterAt k s p) g xs t:=by
 unfold Cls at h|-;simp only[World.iterAt];rw[Array.getElem?_setIfInBounds_ne (by omega)];exact h

def QD (w wr:World)(bs:List Nat)(stv bv:Value):Prop:=
 ∃(st:Nat)(sn:M.Sn),stv=.int .i64 (st:Int)/\SnR wr (w.heap.size+1) (w.heap.size+3) sn/\Cls wr w.heap.size eR 32/\Below w.heap.size w wr/\
  ((st<=9/\1<=st/\M.aR bs 0 1 (M.s0 false)=.fin st sn/\sn.digits.length<=800/\sn.behind<=800/\sn.exponent<=1000000/\∀x∈sn.digits,x<256)\/(st=10/\∃b:Nat,bv=.int .i64 (b:Int)/\b<bs.length/\M.aR bs 0 1 (M.s0 false)=.word b sn.neg))

theorem LG (st c:Nat)(s:M.Sn)(p:Nat)(h1:s.digits.length<=p)(h2:s.behind<=p)(h3:s.exponent<=1000000):(M.take st c s).digits.length<=p+1/\(M.take st c s).behind<=p+1/\(M.take st c s).exponent<=1000000:=by
 unfold M.take
 by_cases e2:st=2
 . rw[if_pos e2];exact⟨Nat.le_succ_of_le h1,Nat.le_succ_of_le h2,h3⟩
 . rw[if_neg e2]
   by_cases e6:st=6
   . rw[if_pos e6];exact⟨by simp;omega,by show s.behind+1<=p+1;omega,h3⟩
   . rw[if_neg e6]
     by_cases e3:st=3
     . rw[if_pos e3];exact⟨by simp;omega,Nat.le_succ_of_le h2,h3⟩
     . rw[if_neg e3]
       by_cases e8:st=8
       . rw[if_pos e8];exact⟨Nat.le_succ_of_le h1,Nat.le_succ_of_le h2,h3⟩
       . rw[if_neg e8]
         by_cases e9:st=9
         . rw[if_pos e9];exact⟨Nat.le_succ_of_le h1,Nat.le_succ_of_le h2,by show min _ _<=_;omega⟩
         . rw[if_neg e9];exact⟨Nat.le_succ_of_le h1,Nat.le_succ_of_le h2,h3⟩

theorem LP (st c:Nat)(s:M.Sn)(hc:c<256)(h:∀x∈s.digits,x<256):∀x∈(M.take st c s).digits,x<256:=by
 have k:∀x∈s.digits++[c],x<256:=fun x hx=>by
  rcases List.mem_append.1 hx with hx|hx
  . exact h x hx
  . simp at hx;omega
 unfold M.take
 by_cases e2:st=2
 . rw[if_pos e2];exact h
 . rw[if_neg e2]
   by_cases e6:st=6
   . rw[if_pos e6];exact k
   . rw[if_neg e6]
     by_cases e3:st=3
     . rw[if_pos e3];exact k
     . rw[if_neg e3]
       by_cases e8:st=8
       . rw[if_pos e8];exact h
       . rw[if_neg e8]
         by_cases e9:st=9
         . rw[if_pos e9];exact h
         . rw[if_neg e9];exact h

abbrev snZ:Array Value:=#[.bool false,.slice none 0 0,.int .i64 0,.bool false,.int .i64 0]

theorem LJ (w:World)(s:ByteArray)(W:World)(hW:W=(((w.alloc (.cells eR 32)).alloc (.cells snZ 161)).iter s 0)):
 W.heap[w.heap.size+2]? =some (.stringIter s 0)/\SnR W (w.heap.size+1) (w.heap.size+3) (M.s0 false)/\Cls W w.heap.size eR 32/\Below w.heap.size w W:=by
 have h1:(w.alloc (.cells eR 32)).heap.size=w.heap.size+1:=by simp
 have C1:Cls (w.alloc (.cells eR 32)) w.heap.size eR 32:=Cls.new _ _ _;have B1:Below w.heap.size w (w.alloc (.cells eR 32)):=(Below.refl _ _).alloc (Nat.le_refl _) _;generalize w.alloc (.cells eR 32)=w1 at*;have h2:(w1.alloc (.cells snZ 161)).heap.size=w.heap.size+2:=by simp[h1]
 have C2:Cls (w1.alloc (.cells snZ 161)) (w.heap.size+1) snZ 161:=by rw[<-h1];exact Cls.new _ _ _
 have B2:Below w1.heap.size w1 (w1.alloc (.cells snZ 161)):=(Below.refl _ _).alloc (Nat.le_refl _) _;have C3:=C1.below B2;have B3:=B1.trans (B2.mono B1.size);generalize w1.alloc (.cells snZ 161)=w2 at*;have B4:Below w2.heap.size w2 W:=by rw[hW];exact(Below.refl _ _).alloc (Nat.le_refl _) _
 have h4:W.heap.size=w.heap.size+3:=by rw[hW];simp[World.iter,h2]
 refine⟨?_,⟨by omega,by omega,none,0,C2.below B4,World.ownsRow_nil _ _ _ _⟩,C3.below B4,B3.trans (B4.mono B3.size)⟩;rw[hW,<-h2];exact World.iter_heap w2 s 0

theorem xF (g B:Nat)(sn:M.Sn)(v:World)(h:SnR v g B sn)(h1:sn.digits.length<=1000)(h2:sn.behind<=1000)(h3:sn.exponent<=1000000)(hx:∀x∈sn.digits,x<256):
 Calls Tryz.prog 124 #[.pointer (some ⟨g,0,none⟩)] v fun e v'=>∃x,e=.returned (rR sn.dec x)/\OwnV v' B x sn.dec.digits/\Below v.heap.size v v':=by
 obtain⟨hgB,hBv,a,cap,hC,hO⟩:=h;have hV:=OwnV.of_own hO hx;have hgv:=hC.lt;have b1:Below v.heap.size v (v.alloc (.cells eR 32)):=(Below.refl _ _).alloc (Nat.le_refl _) _;have C1:=hC.below b1;have R1:Cls (v.alloc (.cells eR 32)) v.heap.size eR 32:=Cls.new _ _ _;have V1:=hV.below b1;have c0:=C1.cell 0 (x:=.bool sn.neg) rfl;have c1:=C1.cell 1 (x:=.slice a sn.digits.length cap) rfl;have c2:=C1.cell 2 (x:=.int .i64 (sn.behind:Int)) rfl;have c3:=C1.cell 3 (x:=.bool sn.expNeg) rfl;have c4:=C1.cell 4 (x:=.int .i64 (sn.exponent:Int)) rfl;have hdec:sn.dec=⟨1,sn.neg,M.bJ sn.digits,M.iJ sn.digits ((if sn.expNeg then-(sn.exponent:Int)else sn.exponent)-sn.behind)⟩:=rfl;have HD:=hid hdec;have hsz:(v.alloc (.cells eR 32)).heap.size=v.heap.size+1:=by simp
 have V1H:=hid V1;have R1H:=hid R1;have B1H:=hid b1;have HSZ:=hid hsz;have HV0:=hid hV.bv;clear V1 R1 b1 hdec hsz hV C1;go_enter Tryz.func124,Tryz.ntmps124
 cases hen:sn.expNeg with
 |false=>
  rw[hen]at c3 HD;go_wp2_with fail
  go_quiet((go_at_call 146;exact Calls.quiet_of_same (zB B a sn.digits.length cap sn.digits ((sn.exponent:Int)-sn.behind) _ rfl (by omega) (by omega) (V1H.out.below (below_drewN (Below.refl _ _) _)))))
  have bq:Below (v.alloc (.cells eR 32)).heap.size (v.alloc (.cells eR 32)) ((v.alloc (.cells eR 32)).drewN nq):=below_drewN (Below.refl _ _) nq;have V2:=V1H.out.bv.below bq;have R2:=R1H.out.below bq;have B2:=B1H.out.trans (bq.mono B1H.out.size);have C2:=(hC.below B1H.out).below bq;generalize(v.alloc (.cells eR 32)).drewN nq=w2 at*;obtain⟨a2,c2',e2,hv2⟩:=V2;rw[e2];have HE2:=hid e2;have d0:=C2.cell 0 (x:=.bool sn.neg) rfl;have y0:=R2.cell 0 (x:=.int .i64 0) rfl;have y1:=R2.cell 1 (x:=.bool false) rfl;have y2:=R2.cell 2 (x:=.slice none 0 0) rfl;have y3:=R2.cell 3 (x:=.int .i64 0) rfl;have f0:=R2.frozen 0;have f1:=R2.frozen 1;have f2:=R2.frozen 2;have f3:=R2.frozen 3;have hne:¬g=v.heap.size:=by omega
  have hne':¬v.heap.size=g:=by omega
  have HR2:=hid R2;have HB2:=hid B2;clear R2 B2 C2 hv2 e2 bq c0 c1 c2 c3 c4 hC hO;obtain⟨xe,hxe⟩:∃xe,xe=M.iJ sn.digits ((sn.exponent:Int)-(sn.behind:Int)):=⟨_,rfl⟩;rw[<-hxe];have HXE:=hid hxe;clear hxe;go_wp2_with fail;have R9:=pS HR2.out rfl (.int .i64 1) (.bool sn.neg) (.slice a2 (M.bJ sn.digits).length c2') (.int .i64 xe);have H9:=fW HB2.out (.int .i64 1) (.bool sn.neg) (.slice a2 (M.bJ sn.digits).length c2') (.int .i64 xe);have O9:=HV0.out.below H9;generalize((((w2.setCell ⟨v.heap.size,0,none⟩ (.int .i64 1)).setCell ⟨v.heap.size,1,none⟩ (.bool sn.neg)).setCell ⟨v.heap.size,2,none⟩ (.slice a2 (M.bJ sn.digits).length c2')).setCell ⟨v.heap.size,3,none⟩ (.int .i64 xe))=w9 at R9 H9 O9|-;have z0:=R9.cell 0 (x:=.int .i64 1) rfl;have z1:=R9.cell 1 (x:=.bool sn.neg) rfl;have z2:=R9.cell 2 (x:=.slice a2 (M.bJ sn.digits).length c2') rfl;have z3:=R9.cell 3 (x:=.int .i64 xe) rfl;refine bodyPost_ret (v:=.agg #[.int .i64 1,.bool sn.neg,.slice a2 (M.bJ sn.digits).length c2',.int .i64 xe]) (by simp[results,Tryz.results124,go_sem,z0,z1,z2,z3]) rfl ?_;rw[HE2.out]at O9;rw[HD.out];exact⟨_,by rw[HXE.out];rfl,O9,H9⟩
 |true=>
  rw[hen]at c3 HD;go_wp2_with fail
  go_quiet((go_at_call 146;exact Calls.quiet_of_same (zB B a sn.digits.length cap sn.digits (-(sn.exponent:Int)-sn.behind) _ rfl (by omega) (by omega) (V1H.out.below (below_drewN (Below.refl _ _) _)))))
  have bq:Below (v.alloc (.cells eR 32)).heap.size (v.alloc (.cells eR 32)) ((v.alloc (.cells eR 32)).drewN nq):=below_drewN (Below.refl _ _) nq;have V2:=V1H.out.bv.below bq;have R2:=R1H.out.below bq;have B2:=B1H.out.trans (bq.mono B1H.out.size);have C2:=(hC.below B1H.out).below bq;generalize(v.alloc (.cells eR 32)).drewN nq=w2 at*;obtain⟨a2,c2',e2,hv2⟩:=V2;rw[e2];have HE2:=hid e2;have d0:=C2.cell 0 (x:=.bool sn.neg) rfl;have y0:=R2.cell 0 (x:=.int .i64 0) rfl;have y1:=R2.cell 1 (x:=.bool false) rfl;have y2:=R2.cell 2 (x:=.slice none 0 0) rfl;have y3:=R2.cell 3 (x:=.int .i64 0) rfl;have f0:=R2.frozen 0;have f1:=R2.frozen 1;have f2:=R2.frozen 2;have f3:=R2.frozen 3;have hne:¬g=v.heap.size:=by omega
  have hne':¬v.heap.size=g:=by omega
  have HR2:=hid R2;have HB2:=hid B2;clear R2 B2 C2 hv2 e2 bq c0 c1 c2 c3 c4 hC hO;obtain⟨xe,hxe⟩:∃xe,xe=M.iJ sn.digits (-(sn.exponent:Int)-(sn.behind:Int)):=⟨_,rfl⟩;rw[<-hxe];have HXE:=hid hxe;clear hxe;go_wp2_with fail;have R9:=pS HR2.out rfl (.int .i64 1) (.bool sn.neg) (.slice a2 (M.bJ sn.digits).length c2') (.int .i64 xe);have H9:=fW HB2.out (.int .i64 1) (.bool sn.neg) (.slice a2 (M.bJ sn.digits).length c2') (.int .i64 xe);have O9:=HV0.out.below H9;generalize((((w2.setCell ⟨v.heap.size,0,none⟩ (.int .i64 1)).setCell ⟨v.heap.size,1,none⟩ (.bool sn.neg)).setCell ⟨v.heap.size,2,none⟩ (.slice a2 (M.bJ sn.digits).length c2')).setCell ⟨v.heap.size,3,none⟩ (.int .i64 xe))=w9 at R9 H9 O9|-;have z0:=R9.cell 0 (x:=.int .i64 1) rfl;have z1:=R9.cell 1 (x:=.bool sn.neg) rfl;have z2:=R9.cell 2 (x:=.slice a2 (M.bJ sn.digits).length c2') rfl;have z3:=R9.cell 3 (x:=.int .i64 xe) rfl;refine bodyPost_ret (v:=.agg #[.int .i64 1,.bool sn.neg,.slice a2 (M.bJ sn.digits).length c2',.int .i64 xe]) (by simp[results,Tryz.results124,go_sem,z0,z1,z2,z3]) rfl ?_;rw[HE2.out]at O9;rw[HD.out];exact⟨_,by rw[HXE.out];rfl,O9,H9⟩

theorem yM (bs ws:List Nat)(p:Nat)(h1:p<bs.length)(h2:p<ws.length):M.aI (bs.drop p) (ws.drop p)=if M.low (bs.getD p 0)=ws.getD p 0 then M.aI (bs.drop (p+1)) (ws.drop (p+1))+1 else 0:=by
 rw[l9 bs p h1,l9 ws p h2,M.aI]

theorem mY (s t:ByteArray)(w:World)(hs:s.size<=800)(ht:t.size<=100)(hw:∀x∈aX t,x<128)(k:Nat)(hk:k=M.aI (aX s) (aX t)):
 Calls Tryz.prog 145 #[.string s,.string t] w fun e w'=>e=.returned (.int .i64 (k:Int))/\Below w.heap.size w w':=by
 have HK:=hid hk;clear hk;have hl:=jC s;have hl2:=jC t;go_enter Tryz.func145,Tryz.ntmps145;go_wp2_with fail
 go_loopw [4] (fun _ wr=>∃(pos:Nat),wr.heap[w.heap.size]? =some (.stringIter s pos)/\pos<=s.size/\pos<=t.size/\Below w.heap.size w wr/\k=pos+M.aI ((aX s).drop pos) ((aX t).drop pos)) (fun _ wr=>s.size-World.iterPos wr w.heap.size)
 case atStart=>exact⟨0,World.iter_heap w s 0,by omega,by omega,(Below.refl _ _).alloc (Nat.le_refl _) _,by rw[List.drop_zero,List.drop_zero,Nat.zero_add];exact HK.out⟩
 case round=>
  rename World=>wr
  obtain⟨pos,hit,hps,hpt,hB,hC⟩:=hrel;have hpos0:=iterPos_of hit
  by_cases hp:pos<s.size
  . obtain⟨l,p',hnx,hlm,hll⟩:=qJ wr w.heap.size s pos hit hp;have hit2:=Lib.iterAt_heap wr w.heap.size s pos p' hit;have hB2:=Lib.below_iterAt hB (k:=w.heap.size) (Nat.le_refl _) s p';obtain⟨W1,hW1⟩:∃W1,W1=wr.iterAt w.heap.size s p':=⟨_,rfl⟩;rw[<-hW1]at hnx hit2 hB2;clear hW1 hit hB;have HN:=hid hnx
    by_cases hq:pos<t.size
    . have hbz:((pos:Int)==(t.size:Int))=false:=by rw[beq_eq_false_iff_ne];omega
      have hst:=yM (aX s) (aX t) pos (by omega) (by omega);have hg:=yW t pos hq;have hx128:(aX t).getD pos 0<128:=M.bG (by omega) hw pos
      have kS:=fun(u:World)=>jW l hlm u _ rfl
      rw[hst]at hC
      have hlow:M.low l=(aX t).getD pos 0↔M.low ((aX s).getD pos 0)=(aX t).getD pos 0:=by
       rcases hll with⟨_,e,_⟩|⟨e1,e2,_⟩
       . rw[e]
       . have q1:M.low l=l:=by unfold M.low;rw[if_neg (by omega)]
         have q2:M.low ((aX s).getD pos 0)=(aX s).getD pos 0:=by unfold M.low;rw[if_neg (by omega)]
         omega
      have hp':M.low l=(aX t).getD pos 0->p'=pos+1:=by
       intro q;rcases hll with⟨_,_,e⟩|⟨e1,e2,_⟩
       . exact e
       . have q1:M.low l=l:=by unfold M.low;rw[if_neg (by omega)]
         omega
      rw[hg]at hlow hp' hC;have HC:=hid hC;have HB2:=hid hB2;have HIT2:=hid hit2;have HLW:=hid hlow;have HP':=hid hp';have HP:=hid hp;clear hC hB2 hit2 hlow hp' hll hst hg hx128 hnx;have hnx:=HN.out
      by_cases heq:M.low l=(t[pos]'hq).toNat
      . have heq':((M.low l:Int)==((t[pos]'hq).toNat:Int))=true:=by rw[beq_iff_eq];omega
        have hpp:=HP'.out heq;have hk2:k=(pos+1)+M.aI ((aX s).drop (pos+1)) ((aX t).drop (pos+1)):=by rw[HC.out,if_pos (HLW.out.1 heq)];omega
        have HK2:=hid hk2;have HPP:=hid hpp;clear heq hk2 hpp;go_wp2_with fail
        go_quiet((go_at_call 144;exact Calls.quiet_of_same (kS _)))
        have hw32:wrap32 ((t[pos]'hq).toNat:Int)=((t[pos]'hq).toNat:Int):=by have:=(t[pos]'hq).toNat_lt;simp only[wrap32];omega
        have hne:((M.low l:Int) !=wrap32 ((t[pos]'hq).toNat:Int))=false:=by rw[hw32,bne,heq'];rfl
        rw[hne];have bq:Below W1.heap.size W1 (W1.drewN nq):=below_drewN (Below.refl _ _) nq;have HB3:=hid (HB2.out.trans (bq.mono HB2.out.size));have HIT3:Hid ((W1.drewN nq).heap[w.heap.size]? =some (.stringIter s p')):=hid ((bq.block _ (lt_of_block HIT2.out)).trans HIT2.out);generalize W1.drewN nq=W2 at*;clear bq hne hw32 heq' kS;go_wp2_with fail;go_roundw
        case rel=>exact⟨pos+1,by rw[<-HPP.out];exact HIT3.out,HP.out,by omega,HB3.out,HK2.out⟩
        case measure=>rw[iterPos_of HIT3.out,hpos0,HPP.out];have:=HP.out;omega
      . have heq':((M.low l:Int)==((t[pos]'hq).toNat:Int))=false:=by rw[beq_eq_false_iff_ne];omega
        have hk2:k=pos:=by rw[HC.out,if_neg (fun e=>heq (HLW.out.2 e))];rfl
        have HK2:=hid hk2;clear heq hk2;go_wp2_with fail
        go_quiet((go_at_call 144;exact Calls.quiet_of_same (kS _)))
        have hw32:wrap32 ((t[pos]'hq).toNat:Int)=((t[pos]'hq).toNat:Int):=by have:=(t[pos]'hq).toNat_lt;simp only[wrap32];omega
        have hne:((M.low l:Int) !=wrap32 ((t[pos]'hq).toNat:Int))=true:=by rw[hw32,bne,heq'];rfl
        rw[hne];have bq:Below W1.heap.size W1 (W1.drewN nq):=below_drewN (Below.refl _ _) nq;have HB3:=hid (HB2.out.trans (bq.mono HB2.out.size));have HIT3:Hid ((W1.drewN nq).heap[w.heap.size]? =some (.stringIter s p')):=hid ((bq.block _ (lt_of_block HIT2.out)).trans HIT2.out);generalize W1.drewN nq=W2 at*;clear bq hne hw32 heq' kS;go_wp2_with fail;go_ret;exact⟨by rw[HK2.out];rfl,HB3.out⟩
    . have hbz:((pos:Int)==(t.size:Int))=true:=by rw[beq_iff_eq];omega
      have hC0:k=pos:=by
       rw[hC,show(aX t).drop pos=[]from List.drop_eq_nil_of_le (by omega)]
       cases(aX s).drop pos<;>rfl
      have HC:=hid hC0;have HB2:=hid hB2;clear hC hB2 hit2 hll hC0;go_wp2_with fail
      go_quiet(fail)
      go_wp2_with fail;go_ret;exact⟨by rw[HC.out];rfl,below_drewN HB2.out _⟩
  . have hend:∀ty,(Instr.next (.pointer (some ⟨w.heap.size,0,none⟩)) true ty).run Tryz.prog wr=.ok (.tuple #[.bool false]) wr:=fun ty=>Lib.run_next_end_at wr w.heap.size s pos ty hit hp
    have hC0:k=s.size:=by
     rw[hC,show(aX s).drop pos=[]from List.drop_eq_nil_of_le (by omega)]
     show pos+0=_
     omega
    have HC:=hid hC0;have HB:=hid hB;clear hC hB hit hC0;go_wp2_with fail;go_ret;exact⟨by rw[HC.out];rfl,HB.out⟩

end Go.Proofs.YtfdgkleoaehjaaaGreatDoor
