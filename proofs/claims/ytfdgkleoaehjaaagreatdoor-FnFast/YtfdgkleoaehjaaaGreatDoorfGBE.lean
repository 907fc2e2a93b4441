import Derived.Test.YtfdgkleoaehjaaaGreatDoorfGBD
set_option maxHeartbeats 2000000
set_option maxRecDepth 100000
namespace Go.Proofs.YtfdgkleoaehjaaaGreatDoor
open Go.RowKit
set_option linter.unusedVariables false
set_option maxRecDepth 100000

def TxB (w0:World)(ao:Option Addr)(n c:Nat)(e:Ending)(v:World):Prop:=
 ∃ra m rc,e=.returned (.slice ra m rc)/\(∃xs:List Nat,xs.length=m/\m<=rc/\(ra=none->rc=0)/\RdB v ra xs)/\Rs w0 v ao n c

theorem Nt.out {w0 v:World}{ao ra:Option Addr}{n c m rc:Nat}(h:Nt w0 v ao n c ra m rc):TxB w0 ao n c (.returned (.slice ra m rc)) v:=⟨ra,m,rc,rfl,h.2.read,h.1⟩

theorem Nt.cut {w0 v:World}{ao ra:Option Addr}{n c m rc:Nat}(h:Nt w0 v ao n c ra m rc)(k:Nat)(hk:k<=m):TxB w0 ao n c (.returned (.slice ra k rc)) v:=by
 obtain⟨xs,h1,h2,h3,h4⟩:=h.2.read
 refine⟨ra,k,rc,rfl,⟨xs.take k,by rw[List.length_take];omega,by omega,h3,fun x hx=>h4.1 x (List.mem_of_mem_take hx),fun hp=>?_⟩,h.1⟩
 rw[List.length_take]at hp;obtain⟨b,off,e,hc⟩:=h4.2 (by omega)
 refine⟨b,off,e,fun i hi=>?_⟩
 rw[List.length_take]at hi;rw[hc i (by omega),List.getD_eq_getElem?_getD,List.getD_eq_getElem?_getD,List.getElem?_take_of_lt (by omega)]

theorem GL {v:World}{g:Nat}{t:TypeId}{fz:Nat×Nat}{cs:Array Value}(ys:List Nat)(hy:∀y∈ys,y<256)(hB:v.heap[g]? =some (.cells cs t fz))(r:Nat)(hr:r<ys.length)(hc:cs=(UB ys).toArray:=by rfl):∃y:Nat,y<256/\v.cell? ⟨g,r,none⟩=some (.int .u8 (y:Int)):=by
 subst hc;exact⟨_,M.bG (by omega) hy r,by rw[cell_of_row v g r _ _ _ hB,List.getElem?_toArray,eJ ys r hr]⟩

theorem jB (w:World)(g n c:Nat)(C:Array Value)(hB:w.heap[g]? =some (.cells C 5 (0,0))):(convert 22 22 (.slice (some ⟨g,0,none⟩) n c)).run Tryz.prog w=.ok (.slice (some ⟨g,0,none⟩) n c) (w.freeze ⟨g,C.size,none⟩ 1):=by
 have hsh:w.shape? g=some (5,C.size):=by unfold World.shape?;rw[hB]
 simp[convert,run_underlying Tryz.underlying22,run_underlying Tryz.underlying5,markStringish,hsh]

theorem lX (w:World)(g k j:Nat)(h:j≠g):(w.freeze ⟨g,k,none⟩ 1).heap[j]? =w.heap[j]?:=by
 simp[World.freeze,Array.getElem?_modify,Ne.symm h]

theorem xH (w:World)(g k:Nat)(C:Array Value)(t:TypeId)(hB:w.heap[g]? =some (.cells C t (0,0))):(w.freeze ⟨g,k,none⟩ 1).heap[g]? =some (.cells C t (k,k+1)):=by
 simp[World.freeze,Array.getElem?_modify,hB]

theorem E8 (w:World)(g k B:Nat)(h:B<=g):Below B w (w.freeze ⟨g,k,none⟩ 1):=⟨by simp[World.freeze],by simp[World.freeze],by simp[World.freeze],by simp[World.freeze],fun j hj=>lX w g k j (by omega)⟩

theorem Nt.frz {w0 v:World}{ao:Option Addr}{n c b m rc:Nat}(h:Nt w0 v ao n c (some ⟨b,0,none⟩) m rc)(g k:Nat)(hg:w0.heap.size<g)(hb:g≠b):Nt w0 (v.freeze ⟨g,k,none⟩ 1) ao n c (some ⟨b,0,none⟩) m rc:=by
 refine⟨h.1.lows (E8 _ _ _ _ hg),?_⟩;obtain⟨h1,h2,h3⟩:=h.2;refine⟨h1,h2,?_⟩;rcases h3 with⟨e,_⟩|⟨b',e1,e2,e3,e4,e5⟩
 . cases e
 . cases e1;have hk:=lX v g k b (Ne.symm hb)
   exact .inr ⟨b,rfl,e2,by simpa[World.freeze]using e3,fun i hi=>⟨by rw[World.cell?_of_block hk];exact(e4 i hi).1,by rw[World.frozen?_of_block hk];exact(e4 i hi).2⟩,fun i hi=>by rw[World.cell?_of_block hk];exact e5 i hi⟩

theorem Nt.put {w0 v:World}{ao:Option Addr}{n c b m rc:Nat}(h:Nt w0 v ao n c (some ⟨b,0,none⟩) m rc)(hb:w0.heap.size<b)(i y:Nat)(hy:y<256):Nt w0 (v.setCell ⟨b,i,none⟩ (.int .u8 (y:Int))) ao n c (some ⟨b,0,none⟩) m rc:=
 ⟨h.1.set b i _ hb,h.2.put i _ y rfl hy⟩

theorem Nt.cells {w0 u:World}{ao:Option Addr}{n c b m rc:Nat}(h:Nt w0 u ao n c (some ⟨b,0,none⟩) m rc)(q:Nat)(hq:q<m):∃z:Nat,u.cell? ⟨b,q,none⟩=some (.int .u8 (z:Int))/\u.frozen? ⟨b,q,none⟩=false/\(∀o,(u.alloc o).cell? ⟨b,q,none⟩=some (.int .u8 (z:Int)))/\(∀o,(u.alloc o).frozen? ⟨b,q,none⟩=false)/\∀g k,g≠b->(u.freeze ⟨g,k,none⟩ 1).cell? ⟨b,q,none⟩=some (.int .u8 (z:Int))/\(u.freeze ⟨g,k,none⟩ 1).frozen? ⟨b,q,none⟩=false:=by
 obtain⟨⟨z,hz⟩,hf⟩:=h.2.cell q hq;have hlt:=World.block_lt_of_cell? u _ hz
 have ha:∀o,(u.alloc o).heap[b]? =u.heap[b]?:=fun o=>heap_alloc_old u o hlt
 exact⟨z,hz,hf,fun o=>(World.cell?_of_block (a:=⟨b,q,none⟩) (ha o)).trans hz,fun o=>(World.frozen?_of_block (a:=⟨b,q,none⟩) (ha o)).trans hf,fun g k hg=>⟨(World.cell?_of_block (a:=⟨b,q,none⟩) (lX u g k b (Ne.symm hg))).trans hz,(World.frozen?_of_block (a:=⟨b,q,none⟩) (lX u g k b (Ne.symm hg))).trans hf⟩⟩

theorem mW {v:World}{g:Nat}{t:TypeId}{fz:Nat×Nat}{cs:Array Value}(ys:List Nat)(hy:∀y∈ys,y<256)(r:Nat)(hr:r<ys.length)(hB:v.heap[g]? =some (.cells cs t fz))(hc:cs=(UB ys).toArray:=by rfl):∃y:Nat,y<256/\v.cell? ⟨g,r,none⟩=some (.int .u8 (y:Int))/\(fz=(0,0)->∀k,(v.freeze ⟨g,k,none⟩ 1).cell? ⟨g,r,none⟩=some (.int .u8 (y:Int))):=by
 subst hc
 refine⟨_,M.bG (by omega) hy r,by rw[cell_of_row v g r _ _ _ hB,List.getElem?_toArray,eJ ys r hr],fun e k=>?_⟩
 subst e;rw[cell_of_row _ g r _ _ _ (xH v g k _ _ hB),List.getElem?_toArray,eJ ys r hr]

theorem zT (v:World){t:TypeId}(cs:Array Value)(ys:List Nat)(hy:∀y∈ys,y<256)(r:Nat)(hr:r<ys.length)(hc:cs=(UB ys).toArray:=by rfl):∃y:Nat,y<256/\∀fz,(v.alloc (.cells cs t fz)).cell? ⟨v.heap.size,r,none⟩=some (.int .u8 (y:Int)):=by
 subst hc
 exact⟨_,M.bG (by omega) hy r,fun fz=>by rw[cell_of_row _ _ r _ _ _ (heap_alloc_new v _),List.getElem?_toArray,eJ ys r hr]⟩

def OD:Value->Nat
 | .slice _ n _=>n
 |_=>0

theorem Nt.pre {ops:Array Oper}{rest:List Oper}{o:Oper}{a:Act}{Q:Exit->Act->World->Prop}{w0 v:World}{ao ra:Option Addr}{n c m rc:Nat}(h:Nt w0 v ao n c ra m rc)(ci:Int)(cn:Nat)(hci:ci=(cn:Int))(hc:cn<256)(hgd:o.guard=none)(s x:Operand)
 (ho:o.op=.call { callee:=.builtin .append,args:=#[s,x],argTypes:=#[22,22] })(hs:a.eval s=.slice (some ⟨v.heap.size,0,none⟩) 1 1)(hx:a.eval x=.slice ra m rc)(hn:1+m<=100000)
 (K:∀ra' rc' v',Nt w0 v' ao n c ra' (1+m) rc'->wpList Tryz.prog ops Q rest (a.put o.dst (.slice ra' (1+m) rc')) v'):wpList Tryz.prog ops Q (o::rest) a (v.alloc (.cells #[.int .u8 ci] 5)):=by
 subst hci;have h1:=h.alloc (.cells #[.int .u8 (cn:Int)] 5);obtain⟨xs,x1,x2,x3,rx⟩:=h1.2.read
 have own:(v.alloc (.cells #[.int .u8 (cn:Int)] 5)).ownsRow v.heap.size 5 1 (.slice (some ⟨v.heap.size,0,none⟩) 1 1) 1 (UB [cn]):=
  ⟨rfl,.inr ⟨v.heap.size,1,#[.int .u8 (cn:Int)],rfl,Nat.le_refl _,heap_alloc_new v _,Nat.le_refl _,by unfold maxLen;omega,rfl,rfl⟩⟩
 refine dC hgd s x ho _ v.heap.size _ 1 [cn] hs own ra m rc xs hx x1 x3 rx (by omega) (by simp) ?_;intro ra' rc' v' o' G
 have hb:Below v.heap.size (v.alloc (.cells #[.int .u8 (cn:Int)] 5)) v':=(Below.refl _ _).grown G (by simp) (fun j e=>bU own e)
 have hlt:=h.1.lt
 have hcn:∀y∈[cn],y<256:=fun y hy=>by simp at hy;omega
 exact K ra' rc' v' ⟨h1.1.lows (hb.mono hlt),(Tw.of_own o' hn (fun y hy=>(List.mem_append.1 hy).elim (hcn y) (rx.1 y))).low hlt⟩

theorem IV (f:Int){w0 v:World}{ao:Option Addr}{n c:Nat}{bs:List Nat}(hl:bs.length=n)(hn:n<=1048576)(hb:RdB w0 ao bs)(h:Rs w0 v ao n c)
 (kN:∀v,Rs w0 v ao n c->Calls Tryz.prog 45 #[.pointer (some ⟨w0.heap.size,0,none⟩),.int .i64 f] v fun e v'=>TxA w0 ao n c e v'):
 Calls Tryz.prog 16 #[.pointer (some ⟨w0.heap.size,0,none⟩),.int .i64 f] v fun e v'=>TxB w0 ao n c e v':=by
 go_enter Tryz.func16,Tryz.ntmps16;go_wp2_with fail;refine(cQ hl hn hb h).mono ?_;rintro e v1 ⟨k,hk,rfl,h1,_⟩;clear h;go_wp2_with fail;refine(kN _ h1).mono ?_;rintro e v2 ⟨ra,m,rc,rfl,hm,N⟩;clear h1 kN;have hmc:=N.2.2.1
 by_cases k5:250<=k
 . as_aux_lemma=>
   have k5':(250:Int)<=(k:Int):=by omega
   obtain⟨a,ha⟩:∃a:Nat,a=k%3:=⟨_,rfl⟩;have ea:(k:Int)%3=(a:Int):=by omega
   have ha3:a<3:=by omega
   obtain⟨d,hd⟩:∃d:Nat,d=k%10:=⟨_,rfl⟩;have fa:(k:Int)%10=(d:Int):=by omega
   have hd3:d<10:=by omega
   clear ha hd;have w1:IntKind.i64.wrap (799+(a:Int))=799+(a:Int):=by rw[IntKind.wrap_i64];omega
   have w2:IntKind.i64.wrap (48+(d:Int))=48+(d:Int):=by rw[IntKind.wrap_i64];omega
   have w3:IntKind.u8.wrap (48+(d:Int))=((48+d:Nat):Int):=by simp only[IntKind.wrap_u8];omega
   have HN:=hid N;clear N;go_wp2_with fail
   go_loopw [6] (fun o wx=>∃ra m rc,o=.slice ra m rc/\m<=100000/\Nt w0 wx ao n c ra m rc) (fun o _=>802-OD o)
   case atStart=>exact⟨ra,m,rc,rfl,by omega,HN.out⟩
   case round=>
    rename World=>wx
    obtain⟨ra2,m2,rc2,rfl,hm2,N2⟩:=hrel
    by_cases hlt:m2<799+a
    . have hlt':(m2:Int)<799+(a:Int):=by omega
      go_wp2_with (at_builtin;refine N2.pre _ (48+d) rfl (by omega) rfl _ _ rfl rfl rfl (by omega) ?_)
      intro ra3 rc3 v3 N3;go_wp2_with fail;go_roundw
      case rel=>exact⟨ra3,1+m2,rc3,rfl,by omega,N3⟩
      case measure=>simp[OD];omega
    . have hlt':¬(m2:Int)<799+(a:Int):=by omega
      have HN2:=hid N2;clear N2;go_wp2_with fail;go_ret;exact HN2.out.out
 have k5':¬(250:Int)<=(k:Int):=by omega
 by_cases hB:k%5=1/\0<m
 . obtain⟨hB1,hB2⟩:=hB;have e5:(k:Int)%5=1:=by omega
   have hm0:(0:Int)<(m:Int):=by omega
   obtain⟨b,rfl,lb,ltb⟩:=N.2.place hB2;have hm1:¬(m:Int)=0:=by omega
   have hm2:((m:Int)==0)=false:=by simp;omega
   have hm3:¬m=0:=by omega
   have kA:=fun(u:World)=>Lib.run_convert_bytes_const (P:=Tryz.prog) u 22 5 #[.int .u8 101,.int .u8 46,.int .u8 43,.int .u8 45,.int .u8 105,.int .u8 110,.int .u8 102,.int .u8 97,.int .u8 120,.int .u8 78,.int .u8 48,.int .u8 32] 12 12 Tryz.underlying22 Tryz.underlying5
   have kB:=fun(u:World)(g:Nat)(h:u.heap[g]? =some (.cells #[.int .u8 101,.int .u8 46,.int .u8 43,.int .u8 45,.int .u8 105,.int .u8 110,.int .u8 102,.int .u8 97,.int .u8 120,.int .u8 78,.int .u8 48,.int .u8 32] 5 (0,0)))=>jB u g 12 12 _ h
   have kE:(convert 22 22 (.slice (some ⟨v2.heap.size,0,none⟩) 12 12)).run Tryz.prog (v2.alloc (.cells #[.int .u8 101,.int .u8 46,.int .u8 43,.int .u8 45,.int .u8 105,.int .u8 110,.int .u8 102,.int .u8 97,.int .u8 120,.int .u8 78,.int .u8 48,.int .u8 32] 5)).drew=.ok (.slice (some ⟨v2.heap.size,0,none⟩) 12 12) (v2.alloc (.cells #[.int .u8 101,.int .u8 46,.int .u8 43,.int .u8 45,.int .u8 105,.int .u8 110,.int .u8 102,.int .u8 97,.int .u8 120,.int .u8 78,.int .u8 48,.int .u8 32] 5 (12,13))).drew:=Lib.run_convert_bytes_const (P:=Tryz.prog) v2.drew 22 5 #[.int .u8 101,.int .u8 46,.int .u8 43,.int .u8 45,.int .u8 105,.int .u8 110,.int .u8 102,.int .u8 97,.int .u8 120,.int .u8 78,.int .u8 48,.int .u8 32] 12 12 Tryz.underlying22 Tryz.underlying5;have Nd:=N.drew;have gl0:w0.heap.size<v2.heap.size:=N.1.lt;have gb0:v2.heap.size≠b:=by omega
   have hy0:∀y∈([101,46,43,45,105,110,102,97,120,78,48,32]:List Nat),y<256:=by simp
   clear hB1;go_upto_region 7 with fail
   go_region_with (first
    |(have hq:=N1;clear hq;have hq:=K1;clear hq;go_at_call 44;refine(cQ hl hn hb (N1.frz v2.heap.size 12 gl0 gb0).1).mono ?_;rintro e u2 ⟨x2,hx2,rfl,r2,s2⟩;have N2:=(N1.frz v2.heap.size 12 gl0 gb0).sx r2 s2;obtain⟨r,hr⟩:∃r:Nat,r=x2%12:=⟨_,rfl⟩;have rk:(x2:Int).tmod 12=(r:Int):=(by rw[Int.tmod_eq_emod_of_nonneg (by omega)];omega);have r12:r<12:=(by omega);have r12':(r:Int)<12:=(by omega);clear hr;obtain⟨z,z1,z2,z3,z4,z5⟩:=N2.cells q qlt;have z6:=fun k=>(z5 v2.heap.size k gb0).1;have z7:=fun k=>(z5 v2.heap.size k gb0).2;have z8:=fun k=>(z5 u1.heap.size k gb1).1;have z9:=fun k=>(z5 u1.heap.size k gb1).2;clear z5;have K2:=(s2.2 v2.heap.size (by simp[World.freeze];omega) (by omega)).trans (xH u1 _ 12 _ _ K1);obtain⟨y,hy,y1,y2⟩:=mW [101,46,43,45,105,110,102,97,120,78,48,32] hy0 r r12 K2;(first|(have kD:=jB u2 _ 12 12 _ K2)|skip))
    |(have hq:=N1;clear hq;have hq:=K1;clear hq;go_at_call 44;refine(cQ hl hn hb N1.1).mono ?_;rintro e u2 ⟨x2,hx2,rfl,r2,s2⟩;have N2:=N1.sx r2 s2;obtain⟨r,hr⟩:∃r:Nat,r=x2%12:=⟨_,rfl⟩;have rk:(x2:Int).tmod 12=(r:Int):=(by rw[Int.tmod_eq_emod_of_nonneg (by omega)];omega);have r12:r<12:=(by omega);have r12':(r:Int)<12:=(by omega);clear hr;obtain⟨z,z1,z2,z3,z4,z5⟩:=N2.cells q qlt;have z6:=fun k=>(z5 v2.heap.size k gb0).1;have z7:=fun k=>(z5 v2.heap.size k gb0).2;have z8:=fun k=>(z5 u1.heap.size k gb1).1;have z9:=fun k=>(z5 u1.heap.size k gb1).2;clear z5;have K2:=(s2.2 v2.heap.size (by omega) (by omega)).trans K1;obtain⟨y,hy,y1,y2⟩:=mW [101,46,43,45,105,110,102,97,120,78,48,32] hy0 r r12 K2;(first|(have kD:=jB u2 _ 12 12 _ K2)|skip))
    |(have hq:=N1;clear hq;go_at_call 44;refine(cQ hl hn hb (N1.alloc _).1).mono ?_;rintro e u2 ⟨x2,hx2,rfl,r2,s2⟩;have N2:=(N1.alloc _).sx r2 s2;obtain⟨r,hr⟩:∃r:Nat,r=x2%12:=⟨_,rfl⟩;have rk:(x2:Int).tmod 12=(r:Int):=(by rw[Int.tmod_eq_emod_of_nonneg (by omega)];omega);have r12:r<12:=(by omega);have r12':(r:Int)<12:=(by omega);clear hr;obtain⟨z,z1,z2,z3,z4,z5⟩:=N2.cells q qlt;have z6:=fun k=>(z5 v2.heap.size k gb0).1;have z7:=fun k=>(z5 v2.heap.size k gb0).2;have z8:=fun k=>(z5 u1.heap.size k gb1).1;have z9:=fun k=>(z5 u1.heap.size k gb1).2;clear z5;have K2:=(s2.2 u1.heap.size (by simp) (by omega)).trans (heap_alloc_new u1 _);obtain⟨y,hy,y1,y2⟩:=mW [101,46,43,45,105,110,102,97,120,78,48,32] hy0 r r12 K2;(first|(have kD:=jB u2 _ 12 12 _ K2)|skip))
    |(have hq:=N1;clear hq;go_at_call 44;refine(cQ hl hn hb N1.1).mono ?_;rintro e u2 ⟨x2,hx2,rfl,r2,s2⟩;have N2:=N1.sx r2 s2;obtain⟨r,hr⟩:∃r:Nat,r=x2%12:=⟨_,rfl⟩;have rk:(x2:Int).tmod 12=(r:Int):=(by rw[Int.tmod_eq_emod_of_nonneg (by omega)];omega);have r12:r<12:=(by omega);have r12':(r:Int)<12:=(by omega);clear hr;obtain⟨z,z1,z2,z3,z4,z5⟩:=N2.cells q qlt;have z6:=fun k=>(z5 v2.heap.size k gb0).1;have z7:=fun k=>(z5 v2.heap.size k gb0).2;have z8:=fun k=>(z5 u1.heap.size k gb1).1;have z9:=fun k=>(z5 u1.heap.size k gb1).2;clear z5;obtain⟨y,hy,y1⟩:=zT u2 (t:= 5) #[.int .u8 101,.int .u8 46,.int .u8 43,.int .u8 45,.int .u8 105,.int .u8 110,.int .u8 102,.int .u8 97,.int .u8 120,.int .u8 78,.int .u8 48,.int .u8 32] [101,46,43,45,105,110,102,97,120,78,48,32] hy0 r r12)
    |(go_at_call 44;refine(cQ hl hn hb Nd.1).mono ?_;rintro e u1 ⟨x1,hx1,rfl,r1,s1⟩;have N1:=Nd.sx r1 s1;obtain⟨q,hq⟩:∃q:Nat,q=x1%m:=⟨_,rfl⟩;have qk:(x1:Int).tmod (m:Int)=(q:Int):=(by rw[Int.tmod_eq_emod_of_nonneg (by omega),hq];rfl);have qlt:q<m:=(by rw[hq];exact Nat.mod_lt _ (by omega));have qlt':(q:Int)<(m:Int):=(by omega);clear hq;have gl1:w0.heap.size<u1.heap.size:=N1.1.lt;have gs1:v2.heap.size<=u1.heap.size:=s1.1;have gb1:u1.heap.size≠b:=(by omega))
    |(go_at_call 44;refine(cQ hl hn hb (Nd.alloc _).1).mono ?_;rintro e u1 ⟨x1,hx1,rfl,r1,s1⟩;have N1:=(Nd.alloc _).sx r1 s1;obtain⟨q,hq⟩:∃q:Nat,q=x1%m:=⟨_,rfl⟩;have qk:(x1:Int).tmod (m:Int)=(q:Int):=(by rw[Int.tmod_eq_emod_of_nonneg (by omega),hq];rfl);have qlt:q<m:=(by rw[hq];exact Nat.mod_lt _ (by omega));have qlt':(q:Int)<(m:Int):=(by omega);clear hq;have gl1:w0.heap.size<u1.heap.size:=N1.1.lt;have gs1:v2.heap.size<u1.heap.size:=(by have:=s1.1;simp at this;omega);have K1:=(s1.2 v2.heap.size (by simp) (by omega)).trans (heap_alloc_new v2.drew _);(first|(have kC:=jB u1 v2.heap.size 12 12 _ K1)|skip);have gb1:u1.heap.size≠b:=(by omega))
    |(go_at_call 44;refine(cQ hl hn hb (N.alloc _).drew.1).mono ?_;rintro e u1 ⟨x1,hx1,rfl,r1,s1⟩;have N1:=(N.alloc _).drew.sx r1 s1;obtain⟨q,hq⟩:∃q:Nat,q=x1%m:=⟨_,rfl⟩;have qk:(x1:Int).tmod (m:Int)=(q:Int):=(by rw[Int.tmod_eq_emod_of_nonneg (by omega),hq];rfl);have qlt:q<m:=(by rw[hq];exact Nat.mod_lt _ (by omega));have qlt':(q:Int)<(m:Int):=(by omega);clear hq;have gl1:w0.heap.size<u1.heap.size:=N1.1.lt;have gs1:v2.heap.size<u1.heap.size:=(by have:=s1.1;simp at this;omega);have K1:=(s1.2 v2.heap.size (by simp) (by omega)).trans (heap_alloc_new v2 _);(first|(have kC:=jB u1 v2.heap.size 12 12 _ K1)|skip);have gb1:u1.heap.size≠b:=(by omega)))
   all_goals
    have HN2:=hid N2;clear N N2 kA kB kE Nd;go_wp2_with fail;go_ret
    first
     |exact(HN2.out.put (by omega) q y hy).out
     |exact((HN2.out.alloc _).put (by omega) q y hy).out
     |exact((HN2.out.frz v2.heap.size 12 gl0 gb0).put (by omega) q y hy).out
     |exact((HN2.out.frz u1.heap.size 12 gl1 gb1).put (by omega) q y hy).out
     |exact((HN2.out.put (by omega) q y hy).alloc _).out
 by_cases hC:k%10=2/\0<m
 . as_aux_lemma=>
   obtain⟨hC1,hC2⟩:=hC;have e5:((k:Int)%5==1)=false:=by simp;omega
   have e10:(k:Int)%10=2:=by omega
   have hm0:(0:Int)<(m:Int):=by omega
   have hm1:¬(m:Int)=0:=by omega
   have hm2:((m:Int)==0)=false:=by simp;omega
   clear hB;go_wp2_with fail;refine(N.next hl hn hb).mono ?_;rintro e v3 ⟨x,hx,rfl,N3⟩;obtain⟨r,hr⟩:∃r:Nat,r=x%m:=⟨_,rfl⟩;have rk:(x:Int)%(m:Int)=(r:Int):=by rw[hr];rfl
   have rlt:r<m:=by rw[hr];exact Nat.mod_lt _ hC2
   have rc1:(r:Int)<=(rc:Int):=by omega
   clear hr;have HN:=hid N3;clear N3 N;go_wp2_with fail;go_ret;exact HN.out.cut r (by omega)
 by_cases hD:k%10=7
 . have e10:(k:Int)%10=7:=by omega
   have e5:((k:Int)%5==1)=false:=by simp;omega
   have kc:=Lib.run_convert_bytes_const (P:=Tryz.prog) v2 22 5 #[.int .u8 101,.int .u8 46,.int .u8 120,.int .u8 43,.int .u8 102,.int .u8 48,.int .u8 105] 7 7 Tryz.underlying22 Tryz.underlying5;clear hB hC;go_wp2_with fail;have hsz:(v2.alloc (.cells #[.int .u8 101,.int .u8 46,.int .u8 120,.int .u8 43,.int .u8 102,.int .u8 48,.int .u8 105] 5 (7,8))).heap.size=v2.heap.size+1:=by simp
   refine(cQ hl hn hb (N.1.alloc _)).mono ?_;rintro e v3 ⟨x,hx,rfl,h3,x3⟩;have N3:=(N.alloc (.cells #[.int .u8 101,.int .u8 46,.int .u8 120,.int .u8 43,.int .u8 102,.int .u8 48,.int .u8 105] 5 (7,8))).sx h3 x3;obtain⟨r,hr⟩:∃r:Nat,r=x%7:=⟨_,rfl⟩;have rk:(x:Int)%7=(r:Int):=by omega
   have r7:r<7:=by omega
   have r7':(r:Int)<7:=by omega
   obtain⟨y,hy,cy⟩:=GL [101,46,120,43,102,48,105] (by simp) ((x3.2 v2.heap.size (by simp) (by have:=N.1.lt;omega)).trans (heap_alloc_new v2 _)) r r7;clear hr kc hsz x3 h3;have HN:=hid N;clear N
   go_wp2_with (at_builtin;refine N3.one _ y rfl hy rfl _ _ rfl rfl rfl (by omega) ?_)
   intro g rc4 v4 N4;have HN4:=hid N4;clear N4;go_wp2_with fail;go_ret;exact HN4.out.out
 have HN:=hid N;clear N;have e7:((k:Int)%10==7)=false:=by simp;omega
 by_cases hm0:0<m
 . as_aux_lemma=>
   have e5:((k:Int)%5==1)=false:=by simp;omega
   have e2:((k:Int)%10==2)=false:=by simp;omega
   go_wp2_with fail;go_ret;exact HN.out.out
 . as_aux_lemma=>
   obtain rfl:m=0:=by omega
   by_cases c5:k%5=1
   . have e5:(k:Int)%5=1:=by omega
     have e2:((k:Int)%10==2)=false:=by simp;omega
     go_wp2_with fail;go_ret;exact HN.out.out
   have e5:((k:Int)%5==1)=false:=by simp;omega
   by_cases c2:k%10=2
   . have e2:(k:Int)%10=2:=by omega
     go_wp2_with fail;go_ret;exact HN.out.out
   . have e2:((k:Int)%10==2)=false:=by simp;omega
     go_wp2_with fail;go_ret;exact HN.out.out

def Sp3 (w w':World)(e:Ending)(A B C:Nat):Prop:=
 ∃(a:Option Addr)(ca:Nat)(b:Option Addr)(cb:Nat)(c:Option Addr)(cc:Nat),e=.returned (.tuple #[.slice a (D A).length ca,.slice b (D B).length cb,.slice c (D C).length cc])/\Rd w' a (D A)/\Rd w' b (D B)/\Rd w' c (D C)/\Below w.heap.size w w'

structure Cv (w v:World)(gd:Nat)(e0 e1 e2 e3 e4:Int)(e5:Bool)(T:M.Pt):Prop where
 b:Below w.heap.size w v
 d:D6 v gd e0 e1 e2 e3 e4 e5
 p:P5 v w.heap.size T

theorem Cv.below {w v v':World}{gd:Nat}{e0 e1 e2 e3 e4:Int}{e5:Bool}{T:M.Pt}(h:Cv w v gd e0 e1 e2 e3 e4 e5 T)(hb:Below v.heap.size v v'):Cv w v' gd e0 e1 e2 e3 e4 e5 T:=
 ⟨h.b.trans (hb.mono h.b.size),h.d.below hb,h.p.below hb⟩

end Go.Proofs.YtfdgkleoaehjaaaGreatDoor
