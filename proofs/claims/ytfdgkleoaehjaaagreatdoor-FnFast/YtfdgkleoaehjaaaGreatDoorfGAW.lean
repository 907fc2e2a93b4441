import Derived.Test.YtfdgkleoaehjaaaGreatDoorProg
import Derived.Conc.RwLib
import Derived.Conc.MuData
import Derived.KernelRfl
import Derived.OpenShut
import Derived.Test.YtfdgkleoaehjaaaGreatDoorfGAT
set_option maxHeartbeats 2000000
set_option maxRecDepth 100000
namespace Go.Proofs.YtfdgkleoaehjaaaGreatDoor
open Go.RowKit
set_option linter.unusedVariables false
set_option maxRecDepth 100000

def Sw (w w':World)(e:Ending)(xs ys:List Nat)(q:Int)(ok:Bool):Prop:=
 ∃(a:Option Addr)(ca:Nat)(b:Option Addr)(cb m1:Nat),e=.returned (.agg #[.slice a xs.length ca,.slice b ys.length cb,.int .i64 q,.bool ok])/\w.heap.size<=m1/\m1<=w'.heap.size/\Own w' w.heap.size m1 a ca xs/\Own w' m1 w'.heap.size b cb ys/\Below w.heap.size w w'

theorem V2n (l h:Nat):V [l,h]=h*18446744073709551616+l:=by simp[V,M.val];omega

theorem PE (X:Nat)(hX:X<2^128)(w:World):
 Calls Tryz.prog 63 #[.agg #[.int .u64 (M.hiN X:Int),.int .u64 (M.loN X:Int)]] w fun e w'=>Ret w w' e (D X):=by
 have hv:V [M.loN X,M.hiN X]=X:=by rw[V2n];exact(M.hl X).symm
 have hf:F64 [M.loN X,M.hiN X]:=by intro y hy;simp at hy;have:=M.kZ X;have:=M.mN hX;omega
 generalize M.hiN X=h at*;generalize M.loN X=l at*;have HV:=hid hv;clear hv;obtain⟨w1,hw1⟩:∃w1,w1=w.alloc (.cells #[.int .u64 (h:Int),.int .u64 (l:Int)] 27):=⟨_,rfl⟩;have hB:=mL w1 [l,h];have b0:Below w.heap.size w w1:=by rw[hw1];exact(Below.refl _ _).alloc (Nat.le_refl _) _
 have hb:Below w1.heap.size w1 (w1.alloc (.cells (U [l,h]).toArray 25)):=(Below.refl _ _).alloc (Nat.le_refl _) _;have hU:(U [l,h]).toArray=#[Value.int .u64 (l:Int),Value.int .u64 (h:Int)]:=rfl;rw[hU]at hB hb;have hsz:w1.heap.size=w.heap.size+1:=by rw[hw1];simp
 rw[hw1]at hB hb b0;rw[hw1]at hsz;rw[hsz]at hB;clear hU hw1;go_enter Tryz.func63,Tryz.ntmps63;go_wp2_with fail;refine(oM _ 2 2 [l,h] _ rfl (by omega) hf hB.rd0).mono ?_;rw[HV.out];rintro e w2 ⟨ao',cap',rfl,ho,hb'⟩;go_wp2_with fail;go_ret;have b1:=b0.trans (hb.mono b0.size);exact⟨ao',cap',rfl,aM ho b1.size,b1.trans (hb'.mono b1.size)⟩

theorem IR (X:Nat)(hX:X<2^128)(w:World):
 Calls Tryz.prog 114 #[.agg #[.int .u64 (M.hiN X:Int),.int .u64 (M.loN X:Int)]] w fun e w'=>∃ao c,e=.returned (.slice ao (L X).length c)/\Rd w' ao (L X)/\(L X).length<=c/\Below w.heap.size w w':=by
 go_enter Tryz.func114,Tryz.ntmps114;go_wp2_with fail;have hv:V [M.loN X,M.hiN X]=X:=by rw[V2n];exact(M.hl X).symm
 have hf:F64 [M.loN X,M.hiN X]:=by intro y hy;simp at hy;have:=M.kZ X;have:=M.mN hX;omega
 have b0:Below w.heap.size w ((w.alloc (.cells #[.int .u64 (M.hiN X:Int),.int .u64 (M.loN X:Int)] 27)).alloc (.cells #[.int .u64 (M.loN X:Int),.int .u64 (M.hiN X:Int)] 25)):=((Below.refl _ _).alloc (Nat.le_refl _) _).alloc (by simp) _
 have hr:Rd ((w.alloc (.cells #[.int .u64 (M.hiN X:Int),.int .u64 (M.loN X:Int)] 27)).alloc (.cells #[.int .u64 (M.loN X:Int),.int .u64 (M.hiN X:Int)] 25)) (some ⟨w.heap.size+1,0,none⟩) [M.loN X,M.hiN X]:=by
  intro _
  refine⟨w.heap.size+1,0,rfl,fun i hi=>?_⟩
  have:i=0\/i=1:=by simp at hi;omega
  rcases this with rfl|rfl<;>simp[go_sem]
 refine(dI _ 2 2 [M.loN X,M.hiN X] _ rfl (Nat.le_refl _) (by omega) hf hr).mono ?_;rw[hv];rintro e v1 ⟨rfl,rfl⟩;have hq:=hr.trim hf;rw[hv]at hq;have hl:(L X).length<=2:=by rw[<-hv];exact nL _ hf
 have HQ:=hid hq;have HL:=hid hl;clear hq hr hl hf hv;go_wp2_with fail;go_ret;exact⟨_,_,rfl,HQ.out,HL.out,b0⟩

theorem jM (a b:Option Addr)(c d n m N De s:Nat)(w:World)(hl:(L N).length=n)(hm:(L De).length=m)(hn:n<=1048576)(hn2:m<=1048576)(hs:s<=100000)(ra:Rd w a (L N))(rb:Rd w b (L De)):
 Calls Tryz.prog 85 #[.agg #[.slice a n c,.slice b m d],.int .i64 (s:Int)] w fun e w'=>RR w w' e (N*2^s) (De*2^0):=by
 have hz:max (s:Int) 0=(s:Int):=by omega
 have hzw:max (IntKind.i64.wrap (-(s:Int))) 0=(0:Int):=by rw[IntKind.wrap_i64];omega
 go_enter Tryz.func85,Tryz.ntmps85;go_wp2_with fail;have b1:Below w.heap.size w ((w.alloc (.cells #[.slice a n c,.slice b m d] 90)).alloc (.cells #[.slice none 0 0,.slice none 0 0] 90)):=((Below.refl _ _).alloc (Nat.le_refl _) _).alloc (by simp) _;generalize hw1:((w.alloc (.cells #[.slice a n c,.slice b m d] 90)).alloc (.cells #[.slice none 0 0,.slice none 0 0] 90))=w1 at*;have c0:w1.cell? ⟨w.heap.size,0,none⟩=some (.slice a n c):=by rw[<-hw1];simp[go_sem]
 have c1:w1.cell? ⟨w.heap.size,1,none⟩=some (.slice b m d):=by rw[<-hw1];simp[go_sem]
 have r0:w1.cell? ⟨w.heap.size+1,0,none⟩=some (.slice none 0 0):=by rw[<-hw1];simp[go_sem]
 have r1:w1.cell? ⟨w.heap.size+1,1,none⟩=some (.slice none 0 0):=by rw[<-hw1];simp[go_sem]
 have z0:w1.frozen? ⟨w.heap.size+1,0,none⟩=false:=by rw[<-hw1];simp[go_sem]
 have z1:w1.frozen? ⟨w.heap.size+1,1,none⟩=false:=by rw[<-hw1];simp[go_sem]
 have n1:w.heap.size+2<=w1.heap.size:=by rw[<-hw1];simp
 clear hw1
 have k1:∀v (z:Int),z=(s:Int)->Below w1.heap.size w1 v->Calls Tryz.prog 116 #[.slice a n c,.int .i64 z] v fun e v'=>∃a1 c1,e=.returned (.slice a1 (L (N*2^s)).length c1)/\v'.ownsRow w1.heap.size 25 1 (.slice a1 (L (N*2^s)).length c1) (L (N*2^s)).length (U (L (N*2^s)))/\Below w1.heap.size w1 v':=fun v z hz hv=>hz▸(aS a n c s N v hl hn (by omega) ((ra.below b1).below hv)).mono fun e v' ⟨a1,c1,he,ho,hb⟩=>⟨a1,c1,he,aM ho hv.size,aL hv hb⟩
 have k2:∀v (z:Int) a1 c1,z=(0:Int)->Below w1.heap.size w1 v->v.ownsRow w1.heap.size 25 1 (.slice a1 (L (N*2^s)).length c1) (L (N*2^s)).length (U (L (N*2^s)))->Calls Tryz.prog 116 #[.slice b m d,.int .i64 z] v fun e v'=>∃a2 c2,e=.returned (.slice a2 (L (De*2^0)).length c2)/\(∀x y,Rd ((v'.setCell ⟨w.heap.size+1,0,none⟩ x).setCell ⟨w.heap.size+1,1,none⟩ y) a1 (L (N*2^s))/\Rd ((v'.setCell ⟨w.heap.size+1,0,none⟩ x).setCell ⟨w.heap.size+1,1,none⟩ y) a2 (L (De*2^0)))/\v'.cell? ⟨w.heap.size+1,0,none⟩=some (.slice none 0 0)/\v'.cell? ⟨w.heap.size+1,1,none⟩=some (.slice none 0 0)/\v'.frozen? ⟨w.heap.size+1,0,none⟩=false/\v'.frozen? ⟨w.heap.size+1,1,none⟩=false/\Below w1.heap.size w1 v':=fun v z a1 c1 hz hv ho1=>hz▸(aS b m d 0 De v hm hn2 (by omega) ((rb.below b1).below hv)).mono fun e v' ⟨a2,c2,he,ho,hb⟩=>⟨a2,c2,he,fun x y=>⟨gC (cH ho1 hb) (by omega) x y,gC ho (by have:=hv.size;omega) x y⟩,((aL hv hb).cell (by simp only;omega)).trans r0,((aL hv hb).cell (by simp only;omega)).trans r1,((aL hv hb).frozen (by simp only;omega)).trans z0,((aL hv hb).frozen (by simp only;omega)).trans z1,aL hv hb⟩
 have D1:∀v,Below w1.heap.size w1 v->(fun v=>v.cell? ⟨w.heap.size,0,none⟩=some (.slice a n c)/\v.cell? ⟨w.heap.size,1,none⟩=some (.slice b m d)) v:=fun v hv=>⟨(hv.cell (by simp only;omega)).trans c0,(hv.cell (by simp only;omega)).trans c1⟩
 have D2:∀v x y,Below w1.heap.size w1 v->(fun v=>v.cell? ⟨w.heap.size,0,none⟩=some (.slice a n c)/\v.cell? ⟨w.heap.size,1,none⟩=some (.slice b m d)) ((v.setCell ⟨w.heap.size+1,0,none⟩ x).setCell ⟨w.heap.size+1,1,none⟩ y):=fun v x y hv=>⟨((qH v x y (by omega)).trans (hv.cell (by simp only;omega))).trans c0,((qH v x y (by omega)).trans (hv.cell (by simp only;omega))).trans c1⟩
 clear c0 c1 r0 r1 z0 z1 ra rb hl hm
 go_region_held3 (fun v=>v.cell? ⟨w.heap.size,0,none⟩=some (.slice a n c)/\v.cell? ⟨w.heap.size,1,none⟩=some (.slice b m d)) (first|exact D1 _ (by assumption)|exact D1 _ ((Below.refl _ _).drew)|exact D2 _ _ _ (by assumption))
  (first|(have hq:=hb1;go_at_call 116;refine(k2 _ _ _ _ (by first|with_reducible rfl|omega|(simp only[IntKind.wrap_i64];omega)) hq ho1).mono ?_;rintro e w' ⟨ao2,ca2,rfl,hRd,f0,f1,f2,f3,hb2⟩;clear hb1 hq ho1)|(go_at_call 116;refine(k1 _ _ (by first|with_reducible rfl|omega|(simp only[IntKind.wrap_i64];omega)) (Below.refl _ _).drew).mono ?_;rintro e w' ⟨ao1,ca1,rfl,ho1,hb1⟩))
 all_goals go_wp2_with fail
 all_goals exact bodyPost_ret (v:=.agg #[.slice ao1 (L (N*2^s)).length ca1,.slice ao2 (L (De*2^0)).length ca2]) (by simp[results,Tryz.results85,go_sem,f0,f1]) rfl ⟨ao1,ca1,ao2,ca2,rfl,(hRd _ _).1,(hRd _ _).2,((b1.trans (hb2.mono b1.size)).setCell (by simp only;omega) _).setCell (by simp only;omega) _⟩

theorem jT (a b:Option Addr)(c d n m N De s:Nat)(w:World)(hl:(L N).length=n)(hm:(L De).length=m)(hn:n<=1048576)(hn2:m<=1048576)(hs:s<=100000)(ra:Rd w a (L N))(rb:Rd w b (L De)):
 Calls Tryz.prog 85 #[.agg #[.slice a n c,.slice b m d],.int .i64 (-(s:Int))] w fun e w'=>RR w w' e (N*2^0) (De*2^s):=by
 have hz:max (-(s:Int)) 0=(0:Int):=by omega
 have hzw:max (IntKind.i64.wrap (-(-(s:Int)))) 0=(s:Int):=by rw[IntKind.wrap_i64];omega
 go_enter Tryz.func85,Tryz.ntmps85;go_wp2_with fail;have b1:Below w.heap.size w ((w.alloc (.cells #[.slice a n c,.slice b m d] 90)).alloc (.cells #[.slice none 0 0,.slice none 0 0] 90)):=((Below.refl _ _).alloc (Nat.le_refl _) _).alloc (by simp) _;generalize hw1:((w.alloc (.cells #[.slice a n c,.slice b m d] 90)).alloc (.cells #[.slice none 0 0,.slice none 0 0] 90))=w1 at*;have c0:w1.cell? ⟨w.heap.size,0,none⟩=some (.slice a n c):=by rw[<-hw1];simp[go_sem]
 have c1:w1.cell? ⟨w.heap.size,1,none⟩=some (.slice b m d):=by rw[<-hw1];simp[go_sem]
 have r0:w1.cell? ⟨w.heap.size+1,0,none⟩=some (.slice none 0 0):=by rw[<-hw1];simp[go_sem]
 have r1:w1.cell? ⟨w.heap.size+1,1,none⟩=some (.slice none 0 0):=by rw[<-hw1];simp[go_sem]
 have z0:w1.frozen? ⟨w.heap.size+1,0,none⟩=false:=by rw[<-hw1];simp[go_sem]
 have z1:w1.frozen? ⟨w.heap.size+1,1,none⟩=false:=by rw[<-hw1];simp[go_sem]
 have n1:w.heap.size+2<=w1.heap.size:=by rw[<-hw1];simp
 clear hw1
 have k1:∀v (z:Int),z=(0:Int)->Below w1.heap.size w1 v->Calls Tryz.prog 116 #[.slice a n c,.int .i64 z] v fun e v'=>∃a1 c1,e=.returned (.slice a1 (L (N*2^0)).length c1)/\v'.ownsRow w1.heap.size 25 1 (.slice a1 (L (N*2^0)).length c1) (L (N*2^0)).length (U (L (N*2^0)))/\Below w1.heap.size w1 v':=fun v z hz hv=>hz▸(aS a n c 0 N v hl hn (by omega) ((ra.below b1).below hv)).mono fun e v' ⟨a1,c1,he,ho,hb⟩=>⟨a1,c1,he,aM ho hv.size,aL hv hb⟩
 have k2:∀v (z:Int) a1 c1,z=(s:Int)->Below w1.heap.size w1 v->v.ownsRow w1.heap.size 25 1 (.slice a1 (L (N*2^0)).length c1) (L (N*2^0)).length (U (L (N*2^0)))->Calls Tryz.prog 116 #[.slice b m d,.int .i64 z] v fun e v'=>∃a2 c2,e=.returned (.slice a2 (L (De*2^s)).length c2)/\(∀x y,Rd ((v'.setCell ⟨w.heap.size+1,0,none⟩ x).setCell ⟨w.heap.size+1,1,none⟩ y) a1 (L (N*2^0))/\Rd ((v'.setCell ⟨w.heap.size+1,0,none⟩ x).setCell ⟨w.heap.size+1,1,none⟩ y) a2 (L (De*2^s)))/\v'.cell? ⟨w.heap.size+1,0,none⟩=some (.slice none 0 0)/\v'.cell? ⟨w.heap.size+1,1,none⟩=some (.slice none 0 0)/\v'.frozen? ⟨w.heap.size+1,0,none⟩=false/\v'.frozen? ⟨w.heap.size+1,1,none⟩=false/\Below w1.heap.size w1 v':=fun v z a1 c1 hz hv ho1=>hz▸(aS b m d s De v hm hn2 (by omega) ((rb.below b1).below hv)).mono fun e v' ⟨a2,c2,he,ho,hb⟩=>⟨a2,c2,he,fun x y=>⟨gC (cH ho1 hb) (by omega) x y,gC ho (by have:=hv.size;omega) x y⟩,((aL hv hb).cell (by simp only;omega)).trans r0,((aL hv hb).cell (by simp only;omega)).trans r1,((aL hv hb).frozen (by simp only;omega)).trans z0,((aL hv hb).frozen (by simp only;omega)).trans z1,aL hv hb⟩
 have D1:∀v,Below w1.heap.size w1 v->(fun v=>v.cell? ⟨w.heap.size,0,none⟩=some (.slice a n c)/\v.cell? ⟨w.heap.size,1,none⟩=some (.slice b m d)) v:=fun v hv=>⟨(hv.cell (by simp only;omega)).trans c0,(hv.cell (by simp only;omega)).trans c1⟩
 have D2:∀v x y,Below w1.heap.size w1 v->(fun v=>v.cell? ⟨w.heap.size,0,none⟩=some (.slice a n c)/\v.cell? ⟨w.heap.size,1,none⟩=some (.slice b m d)) ((v.setCell ⟨w.heap.size+1,0,none⟩ x).setCell ⟨w.heap.size+1,1,none⟩ y):=fun v x y hv=>⟨((qH v x y (by omega)).trans (hv.cell (by simp only;omega))).trans c0,((qH v x y (by omega)).trans (hv.cell (by simp only;omega))).trans c1⟩
 clear c0 c1 r0 r1 z0 z1 ra rb hl hm
 go_region_held3 (fun v=>v.cell? ⟨w.heap.size,0,none⟩=some (.slice a n c)/\v.cell? ⟨w.heap.size,1,none⟩=some (.slice b m d)) (first|exact D1 _ (by assumption)|exact D1 _ ((Below.refl _ _).drew)|exact D2 _ _ _ (by assumption))
  (first|(have hq:=hb1;go_at_call 116;refine(k2 _ _ _ _ (by first|with_reducible rfl|omega|(simp only[IntKind.wrap_i64];omega)) hq ho1).mono ?_;rintro e w' ⟨ao2,ca2,rfl,hRd,f0,f1,f2,f3,hb2⟩;clear hb1 hq ho1)|(go_at_call 116;refine(k1 _ _ (by first|with_reducible rfl|omega|(simp only[IntKind.wrap_i64];omega)) (Below.refl _ _).drew).mono ?_;rintro e w' ⟨ao1,ca1,rfl,ho1,hb1⟩))
 all_goals go_wp2_with fail
 all_goals exact bodyPost_ret (v:=.agg #[.slice ao1 (L (N*2^0)).length ca1,.slice ao2 (L (De*2^s)).length ca2]) (by simp[results,Tryz.results85,go_sem,f0,f1]) rfl ⟨ao1,ca1,ao2,ca2,rfl,(hRd _ _).1,(hRd _ _).2,((b1.trans (hb2.mono b1.size)).setCell (by simp only;omega) _).setCell (by simp only;omega) _⟩

theorem CR {x y:Nat}:(aY (x:Int) (y:Int)<=0)=(x<=y):=by
 unfold aY
 by_cases h:(x:Int)<y
 . rw[if_pos h];simp;omega
 . rw[if_neg h]
   by_cases h2:(y:Int)<x
   . rw[if_pos h2];simp;omega
   . rw[if_neg h2];simp;omega

theorem mE (N p:Nat)(hn:(L N).length<=10000)(hp:p<=100000):(L (N*2^p)).length<=4194304:=by
 have:=cM N p 10000 1563 hn (by omega);omega

theorem CW (g:Nat)(a b:Option Addr)(c d n m N De s:Nat)(w:World)(hl:(L N).length=n)(hm:(L De).length=m)(hn:n<=10000)(hn2:m<=10000)(hs:s<=100000)(ra:Rd w a (L N))(rb:Rd w b (L De))
 (g0:w.cell? ⟨g,0,none⟩=some (.slice a n c))(g1:w.cell? ⟨g,1,none⟩=some (.slice b m d)):
 Calls Tryz.prog 162 #[.int .i64 (s:Int),.pointer (some ⟨g,0,none⟩)] w fun e w'=>e=.returned (.bool (decide (De*2^s<=N*2^0)))/\Below w.heap.size w w':=by
 have k1:=jT a b c d n m N De s w hl hm (by omega) (by omega) hs ra rb;have l1:(L (N*2^0)).length<=4194304:=mE N 0 (by omega) (by omega);have l2:(L (De*2^s)).length<=4194304:=mE De s (by omega) (by omega);obtain⟨N1,hN1⟩:∃N1,N1=N*2^0:=⟨_,rfl⟩;obtain⟨D1,hD1⟩:∃D1,D1=De*2^s:=⟨_,rfl⟩;rw[<-hN1,<-hD1]at k1;rw[<-hN1]at l1;rw[<-hD1]at l2;rw[<-hN1,<-hD1];clear hN1 hD1;have hneg:IntKind.i64.wrap (-(s:Int))= -(s:Int):=by rw[IntKind.wrap_i64];omega
 go_enter Tryz.func162,Tryz.ntmps162;go_wp2_with fail;refine k1.mono ?_;rintro e v1 ⟨a1,c1,a2,c2,rfl,r1,r2,hb1⟩;obtain⟨t0,t1,y0,y1⟩:=iQ v1 90 (.slice a1 (L N1).length c1) (.slice a2 (L D1).length c2);have bn:Below v1.heap.size v1 (v1.alloc (.cells #[.slice a1 (L N1).length c1,.slice a2 (L D1).length c2] 90)):=(Below.refl _ _).alloc (Nat.le_refl _) _;go_wp2_with fail;refine(dU a2 a1 _ _ c2 c1 D1 N1 _ rfl rfl l2 l1 (r2.below bn) (r1.below bn)).mono ?_;rintro e v2 ⟨rfl,q,rfl⟩;have hcm:=CR (x:=D1) (y:=N1);go_wp2_with fail;go_ret;exact⟨rfl,below_drewN (aL hb1 bn) q⟩

theorem DF (g:Nat)(a b:Option Addr)(c d n m N De s:Nat)(w:World)(hl:(L N).length=n)(hm:(L De).length=m)(hn:n<=10000)(hn2:m<=10000)(hs:s<=100000)(ra:Rd w a (L N))(rb:Rd w b (L De))
 (g0:w.cell? ⟨g,0,none⟩=some (.slice a n c))(g1:w.cell? ⟨g,1,none⟩=some (.slice b m d)):
 Calls Tryz.prog 162 #[.int .i64 (-(s:Int)),.pointer (some ⟨g,0,none⟩)] w fun e w'=>e=.returned (.bool (decide (De*2^0<=N*2^s)))/\Below w.heap.size w w':=by
 have k1:=jM a b c d n m N De s w hl hm (by omega) (by omega) hs ra rb;have l1:(L (N*2^s)).length<=4194304:=mE N s (by omega) (by omega);have l2:(L (De*2^0)).length<=4194304:=mE De 0 (by omega) (by omega);obtain⟨N1,hN1⟩:∃N1,N1=N*2^s:=⟨_,rfl⟩;obtain⟨D1,hD1⟩:∃D1,D1=De*2^0:=⟨_,rfl⟩;rw[<-hN1,<-hD1]at k1;rw[<-hN1]at l1;rw[<-hD1]at l2;rw[<-hN1,<-hD1];clear hN1 hD1;have hneg:IntKind.i64.wrap (-(-(s:Int)))= -(-(s:Int)):=by rw[IntKind.wrap_i64];omega
 go_enter Tryz.func162,Tryz.ntmps162;go_wp2_with fail;refine k1.mono ?_;rintro e v1 ⟨a1,c1,a2,c2,rfl,r1,r2,hb1⟩;obtain⟨t0,t1,y0,y1⟩:=iQ v1 90 (.slice a1 (L N1).length c1) (.slice a2 (L D1).length c2);have bn:Below v1.heap.size v1 (v1.alloc (.cells #[.slice a1 (L N1).length c1,.slice a2 (L D1).length c2] 90)):=(Below.refl _ _).alloc (Nat.le_refl _) _;go_wp2_with fail;refine(dU a2 a1 _ _ c2 c1 D1 N1 _ rfl rfl l2 l1 (r2.below bn) (r1.below bn)).mono ?_;rintro e v2 ⟨rfl,q,rfl⟩;have hcm:=CR (x:=D1) (y:=N1);go_wp2_with fail;go_ret;exact⟨rfl,below_drewN (aL hb1 bn) q⟩

theorem Q6 {x y:Int}(h:x<y):∃m:Int,m=y-(y-x)/2/\x<m/\m<=y:=⟨_,rfl,by omega,by omega⟩

theorem oW (lo hi:Int)(P:Int->Bool)(g:Value)(W:World)(h1:-1000000<=lo)(h2:lo<=hi)(h3:hi<=1000000)
 (hk:∀(x:Int)(v:World),lo<=x->x<=hi->Below W.heap.size W v->Calls Tryz.prog 162 #[.int .i64 x,g] v fun e v'=>e=.returned (.bool (P x))/\Below v.heap.size v v'):
 Calls Tryz.prog 161 #[.int .i64 lo,.int .i64 hi,.func (.func 162) #[] #[g]] W fun e w'=>∃r,e=.returned (.int .i64 r)/\lo<=r/\r<=hi/\(lo<r->P r=true)/\(r<hi->P (r+1)=false)/\Below W.heap.size W w':=by
 go_enter Tryz.func161,Tryz.ntmps161;go_wp2_with fail
 go_loopw [0,1] (fun l h wr=>∃x y:Int,l=.int .i64 x/\h=.int .i64 y/\lo<=x/\x<=y/\y<=hi/\Hid (lo<x->P x=true)/\Hid (y<hi->P (y+1)=false)/\Below W.heap.size W wr) (fun l h _=>(intOf h-intOf l).toNat)
 case atStart=>
  exact⟨lo,hi,rfl,rfl,by omega,by omega,by omega,hid (fun h=>by omega),hid (fun h=>by omega),Below.refl _ _⟩
 case round=>
  obtain⟨x,y,rfl,rfl,hx,hxy,hy,HX,HY,hb⟩:=hrel
  by_cases hlt:x<y
  . obtain⟨m,hm,hm1,hm2⟩:=Q6 hlt;have hk1:=hk m;rw[hm]at hm1 hm2 hk1;clear hm;go_wp2_with fail;refine(hk1 _ (by omega) (by omega) hb).mono ?_;rintro e w2 ⟨rfl,hb2⟩;have hb3:=aL hb hb2;cases hP:P (y-(y-x)/2)
    . go_wp2_with fail;go_roundw
      case rel=>
       have R:∃x1 y1:Int,Value.int .i64 x=.int .i64 x1/\Value.int .i64 ((y-(y-x)/2)-1)=.int .i64 y1/\lo<=x1/\x1<=y1/\y1<=hi/\Hid (lo<x1->P x1=true)/\Hid (y1<hi->P (y1+1)=false)/\Below W.heap.size W w2:=
        ⟨x,(y-(y-x)/2)-1,rfl,rfl,by omega,by omega,by omega,HX,hid (fun _=>by rw[show(y-(y-x)/2)-1+1=(y-(y-x)/2) by omega];exact hP),hb3⟩
       first|exact R|((repeat apply Exists.intro);exact⟨R,rfl⟩)
      case measure=>simp[intOf];omega
    . go_wp2_with fail;go_roundw
      case rel=>
       have R:∃x1 y1:Int,Value.int .i64 (y-(y-x)/2)=.int .i64 x1/\Value.int .i64 y=.int .i64 y1/\lo<=x1/\x1<=y1/\y1<=hi/\Hid (lo<x1->P x1=true)/\Hid (y1<hi->P (y1+1)=false)/\Below W.heap.size W w2:=
        ⟨(y-(y-x)/2),y,rfl,rfl,by omega,by omega,by omega,hid (fun _=>hP),HY,hb3⟩
       first|exact R|((repeat apply Exists.intro);exact⟨R,rfl⟩)
      case measure=>simp[intOf];omega
  . go_wp2_with fail;go_ret;have e1:x=y:=by omega
    subst e1;exact⟨x,rfl,hx,hy,HX.out,HY.out,hb⟩

def tR (N De:Nat)(x:Int):Bool:=decide (De*2^x.toNat<=N*2^(-x).toNat)

theorem oN (N De s:Nat):tR N De (s:Int)=decide (De*2^s<=N*2^0):=by
 unfold tR;rw[show(-(s:Int)).toNat=0 by omega,Int.toNat_natCast]

theorem n8 (N De s:Nat):tR N De (-(s:Int))=decide (De*2^0<=N*2^s):=by
 unfold tR;rw[show(-(s:Int)).toNat=0 by omega,show(- -(s:Int)).toNat=s by omega]

theorem RY (m:Nat):2^(3*m)<=10^m:=by
 rw[Nat.pow_mul];exact Nat.pow_le_pow_left (by omega) m

theorem CT (m:Nat):10^m<=2^(4*m):=by
 rw[Nat.pow_mul];exact Nat.pow_le_pow_left (by omega) m

theorem QJ (m:Nat)(h:0<m):2^(3*m)<10^m:=by
 rw[Nat.pow_mul];exact Nat.pow_lt_pow_left (by omega) (by omega)

theorem mX (s m:Nat)(h:0<m):10^m≠2^s:=by
 intro e;have h5:5∣10^m:=Nat.dvd_trans (by decide) (Nat.pow_dvd_pow 10 h);rw[e]at h5
 have:∀s,¬5∣2^s:=by
  intro s
  induction s with
  |zero=>decide
  |succ s ih=>
   intro hh;rw[Nat.pow_succ]at hh;exact ih (by omega)
 exact this s h5

theorem GX (m:Nat)(r:Int)(h1:3*(m:Int)<=r)(h2:r<=4*(m:Int))(h3:3*(m:Int)<r->tR (10^m) 1 r=true)(h4:r<4*(m:Int)->tR (10^m) 1 (r+1)=false):r=(aB (10^m):Int)-1:=by
 obtain⟨s,rfl⟩:∃s:Nat,r=s:=⟨r.toNat,by omega⟩;rw[oN]at h3;rw[show(s:Int)+1=((s+1:Nat):Int) by omega,oN]at h4
 have a1:2^s<=10^m:=by
  rcases Nat.lt_or_ge (3*m) s with h|h
  . have:=of_decide_eq_true (h3 (by omega));omega
  . have e:s=3*m:=by omega
    rw[e];exact RY m
 have a2:10^m<2^(s+1):=by
  rcases Nat.lt_or_ge s (4*m)with h|h
  . have:=of_decide_eq_false (h4 (by omega));omega
  . have e:s=4*m:=by omega
    rw[e,Nat.pow_succ];have:=CT m;have:=Nat.pow_pos (n:=4*m) (show 0<2 by omega);omega
 have:=iT (10^m) (s+1) (by simpa using a1) a2 (by omega);omega

theorem KI (m:Nat)(hm:0<m)(r:Int)(h1:-(4*(m:Int))<=r)(h2:r<= -(3*(m:Int)))(h3:-(4*(m:Int))<r->tR 1 (10^m) r=true)(h4:r< -(3*(m:Int))->tR 1 (10^m) (r+1)=false):r= -(aB (10^m):Int):=by
 obtain⟨s,rfl⟩:∃s:Nat,r= -(s:Int):=⟨(-r).toNat,by omega⟩;rw[n8]at h3
 have a1:10^m<=2^s:=by
  rcases Nat.lt_or_ge s (4*m)with h|h
  . have:=of_decide_eq_true (h3 (by omega));omega
  . have e:s=4*m:=by omega
    rw[e];exact CT m
 have hs:3*m<s:=by
  rcases Nat.lt_or_ge (3*m) s with h|h
  . exact h
  . have e:s=3*m:=by omega
    have:=QJ m hm;rw[e]at a1;omega
 have a2:2^(s-1)<10^m:=by
  rw[show-(s:Int)+1= -((s-1:Nat):Int) by omega,n8]at h4;have:=of_decide_eq_false (h4 (by omega));omega
 have a3:=mX s m hm;have:=iT (10^m) s (by omega) (by omega) (by omega);omega

theorem mI (m:Nat)(h:m<=5200):(L (10^m)).length<=1201:=jH 10 m (gN m (by omega))

theorem mG:(L 1).length<=1201:=by rw[jN];simp

theorem yL (a b:Option Addr)(c d n m2 m:Nat)(w:World)(hm:m<=5200)(hl:(L (10^m)).length=n)(hm2:(L (1)).length=m2)(ra:Rd w a (L (10^m)))(rb:Rd w b (L (1))):
 Calls Tryz.prog 135 #[.int .i64 (m:Int),.agg #[.slice a n c,.slice b m2 d]] w fun e w'=>e=.returned (.int .i64 ((aB (10^m):Int)-1))/\Below w.heap.size w w':=by
 have hn:n<=1201:=by rw[<-hl];first|exact mI m hm|exact mG
 have hn2:m2<=1201:=by rw[<-hm2];first|exact mI m hm|exact mG
 have bn:Below w.heap.size w (w.alloc (.cells #[.slice a n c,.slice b m2 d] 90)):=(Below.refl _ _).alloc (Nat.le_refl _) _;obtain⟨t0,t1,y0,y1⟩:=iQ w 90 (.slice a n c) (.slice b m2 d);have lw:w.heap.size<(w.alloc (.cells #[.slice a n c,.slice b m2 d] 90)).heap.size:=by simp
 have KG:=oW (3*(m:Int)) (4*(m:Int)) (tR (10^m) (1)) (.pointer (some ⟨w.heap.size,0,none⟩)) (w.alloc (.cells #[.slice a n c,.slice b m2 d] 90)) (by omega) (by omega) (by omega) (fun x v hx1 hx2 hv=>by
  rcases Int.lt_or_le x 0 with h0|h0
  . obtain⟨s,rfl⟩:∃s:Nat,x= -(s:Int):=⟨(-x).toNat,by omega⟩;rw[n8];exact DF w.heap.size a b c d n m2 _ _ s v hl hm2 (by omega) (by omega) (by omega) ((ra.below bn).below hv) ((rb.below bn).below hv) ((hv.cell lw).trans t0) ((hv.cell lw).trans t1)
  . obtain⟨s,rfl⟩:∃s:Nat,x=(s:Int):=⟨x.toNat,by omega⟩;rw[oN]
    exact CW w.heap.size a b c d n m2 _ _ s v hl hm2 (by omega) (by omega) (by omega) ((ra.below bn).below hv) ((rb.below bn).below hv) ((hv.cell lw).trans t0) ((hv.cell lw).trans t1))
 have w3:IntKind.i64.wrap (3*(m:Int))=3*(m:Int):=by rw[IntKind.wrap_i64];omega
 have w4:IntKind.i64.wrap (4*(m:Int))=4*(m:Int):=by rw[IntKind.wrap_i64];omega
 have q1:min (3*(m:Int)) (4*(m:Int))=3*(m:Int):=by omega
 have q2:max (3*(m:Int)) (4*(m:Int))=4*(m:Int):=by omega
 clear hl hm2 ra rb t0 t1 y0 y1;go_enter Tryz.func135,Tryz.ntmps135;go_wp2_with fail
 try rw[q1]
 try rw[q2]
 refine KG.mono ?_;rintro e v1 ⟨r,rfl,i1,i2,i3,i4,hb1⟩;have E:=hid (GX m r i1 i2 i3 i4);clear i3 i4;go_wp2_with fail;go_ret;exact⟨by rw[E.out];rfl,bn.trans (hb1.mono bn.size)⟩

theorem xL (a b:Option Addr)(c d n m2 m:Nat)(w:World)(h0:0<m)(hm:m<=5200)(hl:(L (1)).length=n)(hm2:(L (10^m)).length=m2)(ra:Rd w a (L (1)))(rb:Rd w b (L (10^m))):
 Calls Tryz.prog 135 #[.int .i64 (-(m:Int)),.agg #[.slice a n c,.slice b m2 d]] w fun e w'=>e=.returned (.int .i64 (-(aB (10^m):Int)))/\Below w.heap.size w w':=by
 have hn:n<=1201:=by rw[<-hl];first|exact mI m hm|exact mG
 have hn2:m2<=1201:=by rw[<-hm2];first|exact mI m hm|exact mG
 have bn:Below w.heap.size w (w.alloc (.cells #[.slice a n c,.slice b m2 d] 90)):=(Below.refl _ _).alloc (Nat.le_refl _) _;obtain⟨t0,t1,y0,y1⟩:=iQ w 90 (.slice a n c) (.slice b m2 d);have lw:w.heap.size<(w.alloc (.cells #[.slice a n c,.slice b m2 d] 90)).heap.size:=by simp
 have KG:=oW (-(4*(m:Int))) (-(3*(m:Int))) (tR (1) (10^m)) (.pointer (some ⟨w.heap.size,0,none⟩)) (w.alloc (.cells #[.slice a n c,.slice b m2 d] 90)) (by omega) (by omega) (by omega) (fun x v hx1 hx2 hv=>by
  rcases Int.lt_or_le x 0 with h0|h0
  . obtain⟨s,rfl⟩:∃s:Nat,x= -(s:Int):=⟨(-x).toNat,by omega⟩;rw[n8];exact DF w.heap.size a b c d n m2 _ _ s v hl hm2 (by omega) (by omega) (by omega) ((ra.below bn).below hv) ((rb.below bn).below hv) ((hv.cell lw).trans t0) ((hv.cell lw).trans t1)
  . obtain⟨s,rfl⟩:∃s:Nat,x=(s:Int):=⟨x.toNat,by omega⟩;rw[oN]
    exact CW w.heap.size a b c d n m2 _ _ s v hl hm2 (by omega) (by omega) (by omega) ((ra.below bn).below hv) ((rb.below bn).below hv) ((hv.cell lw).trans t0) ((hv.cell lw).trans t1))
 have w3:IntKind.i64.wrap (3*(-(m:Int)))=3*(-(m:Int)):=by rw[IntKind.wrap_i64];omega
 have w4:IntKind.i64.wrap (4*(-(m:Int)))=4*(-(m:Int)):=by rw[IntKind.wrap_i64];omega
 have q1:min (3*(-(m:Int))) (4*(-(m:Int)))= -(4*(m:Int)):=by omega
 have q2:max (3*(-(m:Int))) (4*(-(m:Int)))= -(3*(m:Int)):=by omega
 clear hl hm2 ra rb t0 t1 y0 y1;go_enter Tryz.func135,Tryz.ntmps135;go_wp2_with fail
 try rw[q1]
 try rw[q2]
 refine KG.mono ?_;rintro e v1 ⟨r,rfl,i1,i2,i3,i4,hb1⟩;have E:=hid (KI m h0 r i1 i2 i3 i4);clear i3 i4;go_wp2_with fail;go_ret;exact⟨by rw[E.out];rfl,bn.trans (hb1.mono bn.size)⟩

theorem xN (a b:Option Addr)(c d n m N De:Nat)(w:World)(hl:(L N).length=n)(hm:(L De).length=m)(h0:0<De)(hn:n<=1048576)(hn2:m<=1048576)(ra:Rd w a (L N))(rb:Rd w b (L De)):
 Calls Tryz.prog 136 #[.agg #[.slice a n c,.slice b m d]] w fun e w'=>∃a1 c1 a2 c2,e=.returned (.tuple #[.slice a1 (L (N/De)).length c1,.slice a2 (L (N%De)).length c2])/\Rd w' a1 (L (N/De))/\Below w.heap.size w w':=by
 have bn:Below w.heap.size w (w.alloc (.cells #[.slice a n c,.slice b m d] 90)):=(Below.refl _ _).alloc (Nat.le_refl _) _;obtain⟨t0,t1,t2,t3⟩:=iQ w 90 (.slice a n c) (.slice b m d);have kd:=rP a b n m c d N De _ hl hm h0 hn hn2 (ra.below bn) (rb.below bn);go_enter Tryz.func136,Tryz.ntmps136;go_wp2_with fail;refine kd.mono ?_;rintro e w1 ⟨a1,c1,a2,c2,mid,rfl,g1,g2,o1,o2,hb⟩;go_wp2_with fail
 go_ret2
 exact⟨a1,c1,a2,c2,rfl,o1.rd,bn.trans (hb.mono bn.size)⟩

def pwv (k w:Int)(T:Nat)(E:Int)(x ok:Bool):Value:=.agg #[.int .i64 k,.int .i64 w,.int .u64 (M.hiN T:Int),.int .u64 (M.loN T:Int),.int .i64 E,.bool x,.bool ok]

theorem GU {w v:World}{g:Nat}(h:Below w.heap.size w v)(hg:w.heap.size<=g)(a b c d e f i:Value):Below w.heap.size w (((((((v.setCell ⟨g,0,none⟩ a).setCell ⟨g,1,none⟩ b).setCell ⟨g,2,none⟩ c).setCell ⟨g,3,none⟩ d).setCell ⟨g,4,none⟩ e).setCell ⟨g,5,none⟩ f).setCell ⟨g,6,none⟩ i):=
 ((((((h.setCell (p:=⟨g,0,none⟩) hg a).setCell (p:=⟨g,1,none⟩) hg b).setCell (p:=⟨g,2,none⟩) hg c).setCell (p:=⟨g,3,none⟩) hg d).setCell (p:=⟨g,4,none⟩) hg e).setCell (p:=⟨g,5,none⟩) hg f).setCell (p:=⟨g,6,none⟩) hg i

theorem uU (k W b E:Int)(N De X Y:Nat)(w:World)(hW1:1<=W)(hW2:W<=128)(hb1:-30000<=b)(hb2:b<=30000)(hE:b-W+1=E)
 (hP:0<Y)(m1:(L X).length<=1048576)(m2:(L Y).length<=1048576)(hQ:X/Y<2^128)
 (kT:∀v:World,Calls Tryz.prog 52 #[.int .i64 k] v fun e v'=>RR v v' e N De)
 (kH:∀(v:World)(a b':Option Addr)(c d:Nat),Rd v a (L N)->Rd v b' (L De)->Calls Tryz.prog 135 #[.int .i64 k,.agg #[.slice a (L N).length c,.slice b' (L De).length d]] v fun e v'=>e=.returned (.int .i64 b)/\Below v.heap.size v v')
 (kS:∀(v:World)(a b':Option Addr)(c d:Nat),Rd v a (L N)->Rd v b' (L De)->Calls Tryz.prog 85 #[.agg #[.slice a (L N).length c,.slice b' (L De).length d],.int .i64 (-E)] v fun e v'=>RR v v' e X Y):
 Calls Tryz.prog 112 #[.int .i64 k,.int .i64 W] w fun e w'=>e=.returned (pwv k W (X/Y) E (decide (X%Y=0)) true)/\Below w.heap.size w w':=by
 have kD:=fun(v:World)(a b':Option Addr)(c d:Nat)(ra:Rd v a (L X))(rb:Rd v b' (L Y))=>xN a b' c d _ _ X Y v rfl rfl hP m1 m2 ra rb
 have hz:=sH (X%Y)
 have kO:=fun(v:World)(a:Option Addr)(c:Nat)(ra:Rd v a (L (X/Y)))=>tJ a _ c (X/Y) v rfl hQ ra
 generalize X/Y=Q at*;generalize X%Y=R at*;generalize decide (R=0)=ex at*;unfold pwv;obtain⟨w0,hw0,c0,b0,-⟩:=eE w #[.int .i64 0,.int .i64 0,.int .u64 0,.int .u64 0,.int .i64 0,.bool false,.bool false] 80;have w2:IntKind.i64.wrap (b-W+1)=E:=by rw[IntKind.wrap_i64];omega
 have w3:IntKind.i64.wrap (-E)= -E:=by rw[IntKind.wrap_i64];omega
 have w1:IntKind.i64.wrap (b-W)=b-W:=by rw[IntKind.wrap_i64];omega
 clear hE;go_enter Tryz.func112,Tryz.ntmps112;go_wp2_with fail;refine(kT _).mono ?_;rintro e v1 ⟨a1,c1,a2,c2,rfl,r1,r2,hb1⟩;clear hw0;go_upto_region 2 with fail;obtain⟨v2,ev2,cR,bn,-⟩:=eE v1 #[.slice a1 (L N).length c1,.slice a2 (L De).length c2] 90;replace ev2:=hid ev2;replace r1:=r1.below bn;replace r2:=r2.below bn;have B1:=aL hb1 bn;clear bn hb1;rw[ev2.out];clear ev2;generalize v1.heap.size=g at*;have s1:=cR.cell 0 rfl;have s2:=cR.cell 1 rfl;go_wp2_with fail;refine(kH v2 a1 a2 c1 c2 r1 r2).mono ?_;rintro e v3 ⟨rfl,hb3⟩;replace cR:=cR.below hb3;clear s1 s2;have s1:=cR.cell 0 rfl;have s2:=cR.cell 1 rfl;replace r1:=r1.below hb3;replace r2:=r2.below hb3;have B2:=aL B1 hb3;clear hb3 B1;go_wp2_with fail;refine(kS v3 a1 a2 c1 c2 r1 r2).mono ?_;rintro e v4 ⟨a3,c3,a4,c4,rfl,r3,r4,hb4⟩;have B3:=aL B2 hb4;clear hb4 B2 s1 s2 r1 r2 cR;go_wp2_with fail;refine(kD v4 a3 a4 c3 c4 r3 r4).mono ?_;rintro e v5 ⟨a5,c5,a6,c6,rfl,r5,hb5⟩;have B4:=aL B3 hb5;clear hb5 B3 r3 r4;go_wp2_with fail;refine(kO v5 a5 c5 r5).mono ?_;rintro e v6 ⟨rfl,hb6⟩;have B5:=aL B4 hb6;clear hb6 B4 r5;replace c0:=c0.below B5;have q0:=c0.cell 0 rfl;have q1:=c0.cell 1 rfl;have q2:=c0.cell 2 rfl;have q3:=c0.cell 3 rfl;have q4:=c0.cell 4 rfl;have q5:=c0.cell 5 rfl;have q6:=c0.cell 6 rfl;have z:=c0.frozen;go_wp2_with fail;have BB:=b0.trans (B5.mono b0.size);exact bodyPost_ret (v:=.agg #[.int .i64 k,.int .i64 W,.int .u64 (M.hiN Q:Int),.int .u64 (M.loN Q:Int),.int .i64 E,.bool ex,.bool true]) (by simp[results,Tryz.results112,go_sem,q0,q1,q2,q3,q4,q5,q6]) rfl ⟨rfl,GU BB (Nat.le_refl _) _ _ _ _ _ _ _⟩

theorem GA (k W b:Int)(N De s:Nat)(w:World)(hW1:1<=W)(hW2:W<=128)(hb1:-30000<=b)(hb2:b<=30000)(hE:b-W+1=(s:Int))
 (hD:0<De)(lN:(L N).length<=1201)(lD:(L De).length<=1201)(hs:s<=90000)(hQ:N*2^0/(De*2^s)<2^128)
 (kT:∀v:World,Calls Tryz.prog 52 #[.int .i64 k] v fun e v'=>RR v v' e N De)
 (kH:∀(v:World)(a b':Option Addr)(c d:Nat),Rd v a (L N)->Rd v b' (L De)->Calls Tryz.prog 135 #[.int .i64 k,.agg #[.slice a (L N).length c,.slice b' (L De).length d]] v fun e v'=>e=.returned (.int .i64 b)/\Below v.heap.size v v'):
 Calls Tryz.prog 112 #[.int .i64 k,.int .i64 W] w fun e w'=>e=.returned (pwv k W (N*2^0/(De*2^s)) (b-W+1) (decide (N*2^0%(De*2^s)=0)) true)/\Below w.heap.size w w':=by
 rw[hE]
 exact uU k W b s N De _ _ w hW1 hW2 hb1 hb2 hE (Nat.mul_pos hD (Nat.pow_pos (by omega))) (Nat.le_trans (cM N 0 1201 1500 lN (by omega)) (by omega)) (Nat.le_trans (cM De s 1201 1500 lD (by omega)) (by omega)) hQ kT kH (fun v a b' c d ra rb=>jT a b' c d _ _ N De s v rfl rfl (by omega) (by omega) (by omega) ra rb)

theorem F3 (k W b:Int)(N De s:Nat)(w:World)(hW1:1<=W)(hW2:W<=128)(hb1:-30000<=b)(hb2:b<=30000)(hE:b-W+1= -(s:Int))
 (hD:0<De)(lN:(L N).length<=1201)(lD:(L De).length<=1201)(hs:s<=90000)(hQ:N*2^s/(De*2^0)<2^128)
 (kT:∀v:World,Calls Tryz.prog 52 #[.int .i64 k] v fun e v'=>RR v v' e N De)
 (kH:∀(v:World)(a b':Option Addr)(c d:Nat),Rd v a (L N)->Rd v b' (L De)->Calls Tryz.prog 135 #[.int .i64 k,.agg #[.slice a (L N).length c,.slice b' (L De).length d]] v fun e v'=>e=.returned (.int .i64 b)/\Below v.heap.size v v'):
 Calls Tryz.prog 112 #[.int .i64 k,.int .i64 W] w fun e w'=>e=.returned (pwv k W (N*2^s/(De*2^0)) (b-W+1) (decide (N*2^s%(De*2^0)=0)) true)/\Below w.heap.size w w':=by
 rw[hE]
 refine uU k W b (-(s:Int)) N De _ _ w hW1 hW2 hb1 hb2 hE (Nat.mul_pos hD (Nat.pow_pos (by omega))) (Nat.le_trans (cM N s 1201 1500 lN (by omega)) (by omega)) (Nat.le_trans (cM De 0 1201 1500 lD (by omega)) (by omega)) hQ kT kH (fun v a b' c d ra rb=>?_)
 rw[Int.neg_neg];exact jM a b' c d _ _ N De s v rfl rfl (by omega) (by omega) (by omega) ra rb

end Go.Proofs.YtfdgkleoaehjaaaGreatDoor
namespace Go.Proofs
set_option linter.unusedVariables false
set_option maxRecDepth 100000

abbrev Tryz.muLink:Go.Conc.Locks.MuLink:={ lock:= 110,unlock:= 111,ilock:= 133,iunlock:= 134,lockSlow:= 157,unlockSlow:= 160,disable:= 153,enable:= 155,acquire:= 156,relMerge:= 158,cas32:= 154,add32:= 159,tMutex:= 127,tIMutex:= 125,tPMutex:= 176,tPIMutex:= 198,tPI32:= 200,tUP:= 202,tNoCopy:= 122,tU32:= 123 }

theorem Tryz.muLib:Go.Conc.Locks.MuLib Tryz.prog Tryz.muLink:=
 ⟨Tryz.func110,Tryz.func111,Tryz.func133,Tryz.func134,Tryz.func153,Tryz.func155,Tryz.func156,Tryz.func158,Tryz.func154,Tryz.func159,Tryz.underlying125,Tryz.runUnderlying125,Tryz.sizeOf125,Tryz.isAgg125,Tryz.zeroValue125,Tryz.underlying127,Tryz.runUnderlying127,Tryz.sizeOf127,Tryz.isAgg127,Tryz.zeroValue127,Tryz.underlying176,Tryz.runUnderlying176,Tryz.sizeOf176,Tryz.isAgg176,Tryz.zeroValue176,Tryz.underlying198,Tryz.runUnderlying198,Tryz.sizeOf198,Tryz.isAgg198,Tryz.zeroValue198,Tryz.underlying200,Tryz.runUnderlying200,Tryz.sizeOf200,Tryz.isAgg200,Tryz.zeroValue200,Tryz.underlying202,Tryz.runUnderlying202,Tryz.sizeOf202,Tryz.isAgg202,Tryz.zeroValue202,Tryz.underlying122,Tryz.runUnderlying122,Tryz.sizeOf122,Tryz.isAgg122,Tryz.zeroValue122,Tryz.underlying21,Tryz.runUnderlying21,Tryz.sizeOf21,Tryz.isAgg21,Tryz.zeroValue21,(by kernel_rfl)⟩

end Go.Proofs
namespace Go.Proofs.YtfdgkleoaehjaaaGreatDoor
open Go.RowKit
set_option linter.unusedVariables false
set_option maxRecDepth 100000

def tb (k:Int):Int:=if 5200<k\/k< -5200 then 0 else if 0<=k then(aB (10^k.toNat):Int)-1 else-(aB (10^(-k).toNat):Int)

theorem PU {k:Int}(h:5200<k\/k< -5200):tb k=0:=by unfold tb;rw[if_pos h]

theorem pR (m:Nat)(h:m<=5200):tb (m:Int)=(aB (10^m):Int)-1:=by
 unfold tb;rw[if_neg (by omega),if_pos (by omega),Int.toNat_natCast]

theorem pK (m:Nat)(h:m<=5200)(h0:0<m):tb (-(m:Int))= -(aB (10^m):Int):=by
 unfold tb;rw[if_neg (by omega),if_neg (by omega),show(- -(m:Int)).toNat=m by omega]

theorem FP (m K:Nat)(h:4*m<K):aB (10^m)<=K:=
 bX _ _ (Nat.lt_of_le_of_lt (CT m) (Nat.pow_lt_pow_right (by omega) h))

theorem nJ (m:Nat)(h:m<=5200):aB (10^m)<=20801:=FP m _ (by omega)

theorem gM (k:Int)(w:World):
 Calls Tryz.prog 86 #[.int .i64 k] w fun e w'=>e=.returned (.int .i64 (tb k))/\Below w.heap.size w w':=by
 by_cases hk:5200<k\/k< -5200
 . rw[PU hk]
   by_cases h1:5200<k
   . go_enter Tryz.func86,Tryz.ntmps86;go_wp2_with fail;go_ret;exact⟨rfl,Below.refl _ _⟩
   . have h2:k< -5200:=by omega
     go_enter Tryz.func86,Tryz.ntmps86;go_wp2_with fail;go_ret;exact⟨rfl,Below.refl _ _⟩
 . by_cases h0:0<=k
   . obtain⟨m,rfl⟩:∃m:Nat,k=m:=⟨k.toNat,by omega⟩;have hm:m<=5200:=by omega
     rw[pR m hm];have g1:¬(5200:Int)<(m:Int):=by omega
     have g2:¬(m:Int)< -5200:=by omega
     have hbl:=nJ m hm;have hD:(D (10^m)).length<=2401:=qR m _ 2401 (k:=0) (by omega) (by simp);obtain⟨b,hb⟩:∃b:Nat,b=aB (10^m):=⟨_,rfl⟩;rw[<-hb]at hbl|-;have HB:=hid hb;clear hb hk;go_enter Tryz.func86,Tryz.ntmps86;go_wp2_with fail;refine(dO m _ (by omega)).mono ?_;rintro e v1 ⟨a1,c1,rfl,ho1,hb1⟩;go_wp2_with fail;refine(aW a1 _ c1 (10^m) _ rfl (by omega) (Rd.own ho1) b HB.out).mono ?_;rintro e v2 ⟨rfl,rfl⟩;go_wp2_with fail;go_ret;exact⟨rfl,hb1⟩
   . obtain⟨m,rfl⟩:∃m:Nat,k= -(m:Int):=⟨(-k).toNat,by omega⟩;have hm:m<=5200:=by omega
     rw[pK m hm (by omega)];have g1:¬(5200:Int)< -(m:Int):=by omega
     have g2:¬ -(m:Int)< -5200:=by omega
     have hbl:=nJ m hm;have hD:(D (10^m)).length<=2401:=qR m _ 2401 (k:=0) (by omega) (by simp);obtain⟨b,hb⟩:∃b:Nat,b=aB (10^m):=⟨_,rfl⟩;rw[<-hb]at hbl|-;have HB:=hid hb;clear hb hk;go_enter Tryz.func86,Tryz.ntmps86;go_wp2_with fail
     try rw[show- -(m:Int)=(m:Int) by omega]
     refine(dO m _ (by omega)).mono ?_;rintro e v1 ⟨a1,c1,rfl,ho1,hb1⟩;go_wp2_with fail;refine(aW a1 _ c1 (10^m) _ rfl (by omega) (Rd.own ho1) b HB.out).mono ?_;rintro e v2 ⟨rfl,rfl⟩;go_wp2_with fail;go_ret;exact⟨rfl,hb1⟩

theorem jO (k:Int)(w:World):
 Calls Tryz.prog 108 #[.int .i64 k] w fun e w'=>e=.returned (.bool (decide (-5200<=k/\k<=5200)))/\w'=w:=by
 by_cases h1:-5200<=k
 . by_cases h2:k<=5200
   . rw[decide_eq_true ⟨h1,h2⟩];go_enter Tryz.func108,Tryz.ntmps108;go_wp2_with fail;go_ret;exact⟨rfl,rfl⟩
   . rw[decide_eq_false (by omega)];go_enter Tryz.func108,Tryz.ntmps108;go_wp2_with fail;go_ret;exact⟨rfl,rfl⟩
 . rw[decide_eq_false (by omega)];go_enter Tryz.func108,Tryz.ntmps108;go_wp2_with fail;go_ret;exact⟨rfl,rfl⟩

end Go.Proofs.YtfdgkleoaehjaaaGreatDoor
