import Derived.Test.YtfdgkleoaehjaaaGreatDoorfGAX
set_option maxHeartbeats 4000000
set_option maxRecDepth 100000
namespace Go.Proofs.YtfdgkleoaehjaaaGreatDoor
open Go.RowKit
set_option linter.unusedVariables false
set_option maxRecDepth 100000

theorem L5 (xs:List Nat):V (xs++List.replicate 1 0)=V xs:=by
 unfold V;rw[M.dW];simp[M.val]

theorem IZ (ao bo:Option Addr)(n m c d:Nat)(a b:Nat)(w:World)(sw:Bool)(hl:(L a).length=n)(hm:(L b).length=m)(hnm:m<=n)(hn:n<=1048576)(hr:Rd w ao (L a))(hr2:Rd w bo (L b))(hsw:sw=true->m<n):
 Calls Tryz.prog 115 (if sw then #[.slice bo m d,.slice ao n c]else #[.slice ao n c,.slice bo m d]) w fun e w'=>Ret w w' e (L (a+b)):=by
 have fin:∀(w1 w2:World),Blk w1 w.heap.size (L a++List.replicate 1 0)->Below w.heap.size w w1->vM w1 w2 w.heap.size (L a++List.replicate 1 0) 0 (n+1) (V (L b))->
  ∃cur,Blk w2 w.heap.size cur/\cur.length=n+1/\F64 cur/\V cur=a+b/\Below w.heap.size w w2:=by
  intro w1 w2 hB hb hp;obtain⟨hg,cur,cc,hBc,hW,hc1,hv⟩:=hp;have hlen:cur.length=n+1:=by rw[hW.len];simp[hl]
  refine⟨cur,hBc,hlen,hW.lt,?_,hb.trans ((Below.refl _ _).grown hg hb.size (fun _ h=>by cases h;exact Nat.le_refl _))⟩
  rw[M.qU cur _ hlen,M.qU _ _ (by simp[hl]),L5,V_L,V_L]at hv;have h1:=sZ a n (by omega);have h2:=sZ b n (by omega);exact(M.sW hv (by rw[Nat.pow_succ];omega)).2
 have hsep:∀b2 o2,0<(L b).length->bo=some ⟨b2,o2,none⟩->b2≠w.heap.size:=by
  intro b2 o2 hp e;obtain⟨b3,o3,e3,hc⟩:=hr2 hp;rw[e]at e3;simp only[Option.some.injEq,Addr.mk.injEq]at e3;have:=World.block_lt_of_cell? w _ (hc 0 hp)
  simp at this
  omega
 cases sw
 . have hlt:¬(n:Int)<(m:Int):=by omega
   simp only[Bool.false_eq_true,if_false];go_enter Tryz.func115,Tryz.ntmps115;go_wp2_with fail;refine(jF ao n c 1 (L a) _ hl (by omega) (by omega) hr).mono ?_;rintro e w1 ⟨rfl,hB1,hb1⟩;go_wp2_with fail
   refine(pJ w.heap.size 0 (n+1) (n+1) bo m d _ (L b) _ hB1 (fun x hx=>?_) (by simp[hl]) (by omega) hm (by omega) (gP b) (hr2.below hb1) (fun hp b2 o2=>hsep b2 o2 hp)).mono ?_
   . rcases List.mem_append.1 hx with hx|hx
     . exact gP a x hx
     . simp at hx;omega
   rintro e w2 ⟨rfl,hp⟩;obtain⟨cur,hB2,hlen,hf,hv,hb2⟩:=fin w1 w2 hB1 hb1 hp;clear hp fin hB1;go_wp2_with fail;refine(dI _ (n+1) (n+1) cur _ hlen (Nat.le_refl _) (by omega) hf hB2.rd0).mono ?_;rw[hv];rintro e w3 ⟨rfl,rfl⟩;go_wp2_with fail;go_ret;have h1:=nL cur hf;have h2:=mV cur hf;rw[hv]at h1 h2;have h3:=hB2.ownPre (base:=w.heap.size) (Nat.le_refl _) h1 hlen (by unfold maxLen;omega);rw[h2]at h3;exact⟨_,_,rfl,h3,hb2⟩
 . have hlt:(m:Int)<(n:Int):=by have:=hsw rfl;omega
   simp only[if_true];go_enter Tryz.func115,Tryz.ntmps115;go_wp2_with fail;refine(jF ao n c 1 (L a) _ hl (by omega) (by omega) hr).mono ?_;rintro e w1 ⟨rfl,hB1,hb1⟩;go_wp2_with fail
   refine(pJ w.heap.size 0 (n+1) (n+1) bo m d _ (L b) _ hB1 (fun x hx=>?_) (by simp[hl]) (by omega) hm (by omega) (gP b) (hr2.below hb1) (fun hp b2 o2=>hsep b2 o2 hp)).mono ?_
   . rcases List.mem_append.1 hx with hx|hx
     . exact gP a x hx
     . simp at hx;omega
   rintro e w2 ⟨rfl,hp⟩;obtain⟨cur,hB2,hlen,hf,hv,hb2⟩:=fin w1 w2 hB1 hb1 hp;clear hp fin hB1;go_wp2_with fail;refine(dI _ (n+1) (n+1) cur _ hlen (Nat.le_refl _) (by omega) hf hB2.rd0).mono ?_;rw[hv];rintro e w3 ⟨rfl,rfl⟩;go_wp2_with fail;go_ret;have h1:=nL cur hf;have h2:=mV cur hf;rw[hv]at h1 h2;have h3:=hB2.ownPre (base:=w.heap.size) (Nat.le_refl _) h1 hlen (by unfold maxLen;omega);rw[h2]at h3;exact⟨_,_,rfl,h3,hb2⟩

theorem LU (ao bo:Option Addr)(n m c d:Nat)(a b:Nat)(w:World)(hl:(L a).length=n)(hm:(L b).length=m)(hn:n<=1048576)(hm2:m<=1048576)(hr:Rd w ao (L a))(hr2:Rd w bo (L b)):
 Calls Tryz.prog 115 #[.slice ao n c,.slice bo m d] w fun e w'=>Ret w w' e (L (a+b)):=by
 by_cases h:m<=n
 . exact IZ ao bo n m c d a b w false hl hm h hn hr hr2 (fun h=>by cases h)
 . have:=IZ bo ao m n d c b a w true hm hl (by omega) (by omega) hr2 hr (fun _=>by omega)
   rw[Nat.add_comm b a]at this;exact this

open Go.Maps

theorem T2.cls {tb bm:Nat}{w v:World}{g:Nat}{xs:Array Value}{t:TypeId}(h:T2 tb bm w v)(hc:Cls w g xs t)(h1:g≠tb)(h2:g≠bm):Cls v g xs t:=(h.block g hc.lt h1 h2).trans hc

theorem T2.trans {tb bm:Nat}{w v u:World}(h:T2 tb bm w v)(k:T2 tb bm v u):T2 tb bm w u:=
 ⟨k.os.trans h.os,k.tape.trans h.tape,k.output.trans h.output,Nat.le_trans h.size k.size,fun j hj h1 h2=>(k.block j (Nat.lt_of_lt_of_le hj h.size) h1 h2).trans (h.block j hj h1 h2)⟩

def Scx (tb bm:Nat)(w w':World)(e:Ending)(xs ys:List Nat)(q:Int)(ok:Bool):Prop:=
 ∃(a:Option Addr)(ca:Nat)(b:Option Addr)(cb m1:Nat),e=.returned (.agg #[.slice a xs.length ca,.slice b ys.length cb,.int .i64 q,.bool ok])/\w.heap.size<=m1/\m1<=w'.heap.size/\Own w' w.heap.size m1 a ca xs/\Own w' m1 w'.heap.size b cb ys/\T2 tb bm w w'

theorem OF (v:World)(d:Nat)(t:TypeId):Rd (v.alloc (.cells #[.int .u64 (d:Int)] t)) (some ⟨v.heap.size,0,none⟩) [d]:=by
 intro _
 refine⟨v.heap.size,0,rfl,fun i hi=>?_⟩
 have:i=0:=by simp at hi;omega
 subst this
 simp[go_sem]

theorem iI (W:World)(g j:Nat)(v:Value):W.grownBy (W.setCell ⟨g,j,none⟩ v) (some g):=
 ⟨rfl,rfl,rfl,by simp,fun k _ hk=>Below.heap_setCell _ _ _ k (fun e=>hk (by rw[e]))⟩

theorem Own.wide {v:World}{lo hi lo' hi':Nat}{ao:Option Addr}{cap:Nat}{r:List Nat}(h:Own v lo hi ao cap r)(h1:lo'<=lo)(h2:hi<=hi'):Own v lo' hi' ao cap r:=
 ⟨h.row,fun k hk=>by have:=h.place k hk;omega⟩

theorem wP (u:World)(t:TypeId):Rd (u.alloc (.cells #[.int .u64 1] t)) (some ⟨u.heap.size,0,none⟩) [1]:=by
 intro _
 refine⟨u.heap.size,0,rfl,fun i hi=>?_⟩
 have:i=0:=by simp at hi;omega
 subst this
 simp[go_sem]

theorem NY {w v:World}{g:Nat}(hb:Below w.heap.size w v)(hg:w.heap.size<=g)(a b c d:Value):Below w.heap.size w ((((v.setCell ⟨g,0,none⟩ a).setCell ⟨g,1,none⟩ b).setCell ⟨g,2,none⟩ c).setCell ⟨g,3,none⟩ d):=
 (((hb.setCell (p:=⟨g,0,none⟩) hg a).setCell (p:=⟨g,1,none⟩) hg b).setCell (p:=⟨g,2,none⟩) hg c).setCell (p:=⟨g,3,none⟩) hg d

theorem Own.set4 {v:World}{lo hi:Nat}{ao:Option Addr}{cap:Nat}{r:List Nat}{g:Nat}(h:Own v lo hi ao cap r)(hg:hi<=g\/g<lo)(a b c d:Value):Own ((((v.setCell ⟨g,0,none⟩ a).setCell ⟨g,1,none⟩ b).setCell ⟨g,2,none⟩ c).setCell ⟨g,3,none⟩ d) lo hi ao cap r:=
 h.grown (aA (aA (aA (iI _ _ _ _) (iI _ _ _ _)) (iI _ _ _ _)) (iI _ _ _ _)) (fun k h1 h2 e=>by injection e;omega)

theorem V1 (d:Nat):V [d]=d:=by simp[V,M.val]

theorem zG (d:Nat)(hd:d<18446744073709551616)(k W:Int)(T:Nat)(E:Int)(x:Bool)(w:World)(tb bm:Nat)(hF:Full w tb bm k W (.agg #[.int .i64 k,.int .i64 W,.int .u64 (M.hiN T:Int),.int .u64 (M.loN T:Int),.int .i64 E,.bool x,.bool true]))(A Bv:Nat)
 (kT:∀v:World,Full v tb bm k W (.agg #[.int .i64 k,.int .i64 W,.int .u64 (M.hiN T:Int),.int .u64 (M.loN T:Int),.int .i64 E,.bool x,.bool true])->Calls Tryz.prog 80 #[.pointer (some ⟨tb,0,none⟩),.int .i64 k,.int .i64 W] v fun e w'=>e=.returned (.agg #[.int .i64 k,.int .i64 W,.int .u64 (M.hiN T:Int),.int .u64 (M.loN T:Int),.int .i64 E,.bool x,.bool true])/\T2 tb bm v w'/\Full w' tb bm k W (.agg #[.int .i64 k,.int .i64 W,.int .u64 (M.hiN T:Int),.int .u64 (M.loN T:Int),.int .i64 E,.bool x,.bool true]))
 (k2:∀v:World,Calls Tryz.prog 114 #[.agg #[.int .u64 (M.hiN T:Int),.int .u64 (M.loN T:Int)]] v fun e w'=>∃ao c,e=.returned (.slice ao (L T).length c)/\Rd w' ao (L T)/\(L T).length<=c/\Below v.heap.size v w')
 (kM:∀(v:World)(ao bo:Option Addr)(c e:Nat),Rd v ao (L d)->Rd v bo (L T)->Calls Tryz.prog 99 #[.slice ao (L d).length c,.slice bo (L T).length e] v fun e w'=>Ret v w' e (L A))
 (kA:∀(v:World)(ao bo:Option Addr)(c e:Nat),Rd v ao (L T)->Rd v bo [1]->Calls Tryz.prog 115 #[.slice ao (L T).length c,.slice bo 1 e] v fun e w'=>Ret v w' e (L (T+1)))
 (Tv:Nat)(hT:Tv=if x then T else T+1)
 (kN:∀(v:World)(ao bo:Option Addr)(c e:Nat),Rd v ao (L d)->Rd v bo (L Tv)->Calls Tryz.prog 99 #[.slice ao (L d).length c,.slice bo (L Tv).length e] v fun e w'=>Ret v w' e (L Bv)):
 Calls Tryz.prog 82 #[.pointer (some ⟨tb,0,none⟩),.int .u64 (d:Int),.agg #[.int .i64 k,.int .i64 W,.int .u64 (M.hiN T:Int),.int .u64 (M.loN T:Int),.int .i64 E,.bool x,.bool true]] w fun e w'=>Scx tb bm w w' e (L A) (L Bv) E true/\Full w' tb bm k W (.agg #[.int .i64 k,.int .i64 W,.int .u64 (M.hiN T:Int),.int .u64 (M.loN T:Int),.int .i64 E,.bool x,.bool true]):=by
 have HT:=hid hT;clear hT;have ltb:=hF.lt;have lbm:=hF.lb;have bW:Below w.heap.size w ((w.alloc (.cells #[.int .i64 k,.int .i64 W,.int .u64 (M.hiN T:Int),.int .u64 (M.loN T:Int),.int .i64 E,.bool x,.bool true] 80)).alloc (.cells #[.slice none 0 0,.slice none 0 0,.int .i64 0,.bool false] 84)):=((Below.refl _ _).alloc (Nat.le_refl _) _).alloc (by simp) _;have b0:T2 tb bm w ((w.alloc (.cells #[.int .i64 k,.int .i64 W,.int .u64 (M.hiN T:Int),.int .u64 (M.loN T:Int),.int .i64 E,.bool x,.bool true] 80)).alloc (.cells #[.slice none 0 0,.slice none 0 0,.int .i64 0,.bool false] 84)):=(T2.refl _ _ _).below bW (Nat.le_refl _);have hP:Cls ((w.alloc (.cells #[.int .i64 k,.int .i64 W,.int .u64 (M.hiN T:Int),.int .u64 (M.loN T:Int),.int .i64 E,.bool x,.bool true] 80)).alloc (.cells #[.slice none 0 0,.slice none 0 0,.int .i64 0,.bool false] 84)) w.heap.size #[.int .i64 k,.int .i64 W,.int .u64 (M.hiN T:Int),.int .u64 (M.loN T:Int),.int .i64 E,.bool x,.bool true] 80:=(Cls.new w _ _).below ((Below.refl _ _).alloc (Nat.le_refl _) _)
 have hR:Cls ((w.alloc (.cells #[.int .i64 k,.int .i64 W,.int .u64 (M.hiN T:Int),.int .u64 (M.loN T:Int),.int .i64 E,.bool x,.bool true] 80)).alloc (.cells #[.slice none 0 0,.slice none 0 0,.int .i64 0,.bool false] 84)) (w.heap.size+1) #[.slice none 0 0,.slice none 0 0,.int .i64 0,.bool false] 84:=by
  have:=Cls.new (w.alloc (.cells #[.int .i64 k,.int .i64 W,.int .u64 (M.hiN T:Int),.int .u64 (M.loN T:Int),.int .i64 E,.bool x,.bool true] 80)) #[.slice none 0 0,.slice none 0 0,.int .i64 0,.bool false] 84
  rwa[World.size_alloc]at this
 replace hF:=hF.below bW;have lV:w.heap.size+1<((w.alloc (.cells #[.int .i64 k,.int .i64 W,.int .u64 (M.hiN T:Int),.int .u64 (M.loN T:Int),.int .i64 E,.bool x,.bool true] 80)).alloc (.cells #[.slice none 0 0,.slice none 0 0,.int .i64 0,.bool false] 84)).heap.size:=hR.lt;clear bW;generalize hV:((w.alloc (.cells #[.int .i64 k,.int .i64 W,.int .u64 (M.hiN T:Int),.int .u64 (M.loN T:Int),.int .i64 E,.bool x,.bool true] 80)).alloc (.cells #[.slice none 0 0,.slice none 0 0,.int .i64 0,.bool false] 84))=v0 at*;go_enter Tryz.func82,Tryz.ntmps82;go_upto_region 1 with fail;clear hV
 go_cut[22] (fun z wx=>z=.bool false/\T2 tb bm v0 wx/\Full wx tb bm k W (.agg #[.int .i64 k,.int .i64 W,.int .u64 (M.hiN T:Int),.int .u64 (M.loN T:Int),.int .i64 E,.bool x,.bool true]))
 case first=>
  have A0:T2 tb bm v0 v0.drew:=(T2.refl _ _ _).below (Below.refl v0.heap.size v0).drew (Nat.le_refl _)
  have KB:∀v,T2 tb bm v0 v->(fun v=>v.cell? ⟨w.heap.size,0,none⟩=some (.int .i64 k)/\v.cell? ⟨w.heap.size,1,none⟩=some (.int .i64 W)/\v.cell? ⟨w.heap.size,2,none⟩=some (.int .u64 (M.hiN T:Int))/\v.cell? ⟨w.heap.size,3,none⟩=some (.int .u64 (M.loN T:Int))/\v.cell? ⟨w.heap.size,4,none⟩=some (.int .i64 E)/\v.cell? ⟨w.heap.size,5,none⟩=some (.bool x)/\v.cell? ⟨w.heap.size,6,none⟩=some (.bool true)) v:=fun v hv=>⟨(hv.cls hP (by omega) (by omega)).cell 0 rfl,(hv.cls hP (by omega) (by omega)).cell 1 rfl,(hv.cls hP (by omega) (by omega)).cell 2 rfl,(hv.cls hP (by omega) (by omega)).cell 3 rfl,(hv.cls hP (by omega) (by omega)).cell 4 rfl,(hv.cls hP (by omega) (by omega)).cell 5 rfl,(hv.cls hP (by omega) (by omega)).cell 6 rfl⟩
  go_region_held3 (fun v=>v.cell? ⟨w.heap.size,0,none⟩=some (.int .i64 k)/\v.cell? ⟨w.heap.size,1,none⟩=some (.int .i64 W)/\v.cell? ⟨w.heap.size,2,none⟩=some (.int .u64 (M.hiN T:Int))/\v.cell? ⟨w.heap.size,3,none⟩=some (.int .u64 (M.loN T:Int))/\v.cell? ⟨w.heap.size,4,none⟩=some (.int .i64 E)/\v.cell? ⟨w.heap.size,5,none⟩=some (.bool x)/\v.cell? ⟨w.heap.size,6,none⟩=some (.bool true)) (first|with_reducible exact KB _ hb1|with_reducible exact KB _ A0) (first|(go_at_call 80;refine(kT v0.drew (hF.below (Below.refl _ _).drew)).mono ?_;rintro e u1 ⟨rfl,hb0,F1⟩;have hb1:=A0.trans hb0;clear hb0))
  all_goals go_wp2_with fail
  all_goals go_meet
  all_goals exact⟨rfl,hb1,F1⟩
 case rest=>
 clear hF;obtain⟨rfl,hbx,hF⟩:=hcut;replace hR:=hbx.cls hR (by omega) (by omega);replace hP:=hbx.cls hP (by omega) (by omega);replace b0:=b0.trans hbx;clear hbx kT;have lR:=hR.lt;go_upto_region 3 with fail
 go_cut[7,8] (fun y z wx=>∃(a1:Option Addr)(c1:Nat)(a2:Option Addr)(c2:Nat),y=.slice a1 (L d).length c1/\z=.slice a2 (L T).length c2/\Rd wx a1 (L d)/\Rd wx a2 (L T)/\Below wc.heap.size wc wx)
 case first=>
  have A0:Below wc.heap.size wc wc.drew:=(Below.refl _ _).drew;have A1:Below wc.heap.size wc (wc.alloc (.cells #[.int .u64 (d:Int)] 25)).drew:=((Below.refl _ _).alloc (Nat.le_refl _) _).drew;have A2:Below wc.heap.size wc (wc.drew.alloc (.cells #[.int .u64 (d:Int)] 25)):=((Below.refl wc.heap.size wc).drew).alloc (Nat.le_refl _) _;have R2:Rd (wc.drew.alloc (.cells #[.int .u64 (d:Int)] 25)) (some ⟨wc.heap.size,0,none⟩) [d]:=OF wc.drew d _;have hF:F64 [d]:=by intro y hy;simp at hy;omega
  have kt:=fun(v:World)(hr:Rd v (some ⟨wc.heap.size,0,none⟩) [d])=>dI (some ⟨wc.heap.size,0,none⟩) 1 1 [d] v rfl (Nat.le_refl _) (by omega) hF hr
  rw[V1]at kt
  have KB:∀v,Below wc.heap.size wc v->(fun v=>v.cell? ⟨w.heap.size,2,none⟩=some (.int .u64 (M.hiN T:Int))/\v.cell? ⟨w.heap.size,3,none⟩=some (.int .u64 (M.loN T:Int))) v:=fun v hv=>⟨(hP.below hv).cell 2 rfl,(hP.below hv).cell 3 rfl⟩
  have KU:∀u1,u1=(wc.drew.alloc (.cells #[.int .u64 (d:Int)] 25))->Below wc.heap.size wc u1:=fun u hu=>by rw[hu];exact A2
  have KR:∀u1,u1=(wc.drew.alloc (.cells #[.int .u64 (d:Int)] 25))->Rd u1 (some ⟨wc.heap.size,0,none⟩) (L d):=fun u hu=>by
   rw[hu];have:=R2.trim hF
   rwa[V1]at this
  have d2:=hP.cell 2 rfl;have d3:=hP.cell 3 rfl
  go_region_held3 (fun v=>v.cell? ⟨w.heap.size,2,none⟩=some (.int .u64 (M.hiN T:Int))/\v.cell? ⟨w.heap.size,3,none⟩=some (.int .u64 (M.loN T:Int))) (first|with_reducible exact KB _ hb2|with_reducible exact KB _ hb1|with_reducible exact KB _ A0|with_reducible exact KB _ A1|with_reducible exact KB _ A2)
   (first|(have hq:=hb1;clear hq;go_at_call 114;refine(k2 _).mono ?_;rintro e u2 ⟨a2,c2,rfl,r2,-,hb0⟩;have hb2:=aL (w1:=wc) hb1 hb0;replace r1:=r1.below hb0;clear hb0)|(go_at_call 113;refine(kt _ R2).mono ?_;rintro e u1 ⟨rfl,hu⟩;have hb1:=KU _ hu;have r1:=KR _ hu;clear hu))
  all_goals go_wp2_with fail
  all_goals go_meet
  all_goals exact⟨_,_,a2,c2,rfl,rfl,r1,r2,hb2⟩
 case rest=>
 obtain⟨a1,c1,a2,c2,rfl,rfl,r1,r2,hbx⟩:=hcut;replace hR:=hR.below hbx;replace hP:=hP.below hbx;replace b0:=b0.below hbx b0.size;replace hF:=hF.below hbx;have lx:=hbx.size;clear hbx k2
 rename World=>wy
 go_upto_region 4 with fail
 go_cut[9] (fun z wx=>∃(gs lo hi:Nat)(oa:Option Addr)(oc:Nat),z=.pointer (some ⟨gs,0,none⟩)/\wy.heap.size<=gs/\gs<wx.heap.size/\Cls wx gs #[.slice oa (L A).length oc,.slice none 0 0,.int .i64 E,.bool true] 84/\Own wx lo hi oa oc (L A)/\wy.heap.size<=lo/\hi<=wx.heap.size/\(hi<=gs\/gs<lo)/\Below wy.heap.size wy wx)
 case first=>
  have A0:Below wy.heap.size wy wy.drew:=(Below.refl _ _).drew;have A1:Below wy.heap.size wy (wy.alloc (.cells #[.slice none 0 0,.slice none 0 0,.int .i64 0,.bool false] 84)).drew:=((Below.refl _ _).alloc (Nat.le_refl _) _).drew;have A2:Below wy.heap.size wy (wy.drew.alloc (.cells #[.slice none 0 0,.slice none 0 0,.int .i64 0,.bool false] 84)):=((Below.refl wy.heap.size wy).drew).alloc (Nat.le_refl _) _
  have KB:∀v,Below wy.heap.size wy v->(fun v=>v.cell? ⟨w.heap.size,4,none⟩=some (.int .i64 E)) v:=fun v hv=>(hP.below hv).cell 4 rfl
  have z1:Cls (wy.alloc (.cells #[.slice none 0 0,.slice none 0 0,.int .i64 0,.bool false] 84)).drew wy.heap.size #[.slice none 0 0,.slice none 0 0,.int .i64 0,.bool false] 84:=(Cls.new wy _ _).below (Below.refl _ _).drew;have z2:Cls (wy.drew.alloc (.cells #[.slice none 0 0,.slice none 0 0,.int .i64 0,.bool false] 84)) wy.heap.size #[.slice none 0 0,.slice none 0 0,.int .i64 0,.bool false] 84:=Cls.new wy.drew _ _;have d4:=hP.cell 4 rfl
  go_region_held3 (fun v=>v.cell? ⟨w.heap.size,4,none⟩=some (.int .i64 E)) (first|with_reducible exact KB _ hb1|with_reducible exact KB _ A0|with_reducible exact KB _ A1|with_reducible exact KB _ A2|with_reducible exact KB _ (hb1.alloc hb1.size _)|with_reducible exact KB _ (NY hb1 (Nat.le_refl _) _ _ _ _))
   (first|(go_at_call 99;refine(kM wy.drew a1 a2 c1 c2 (r1.below A0) (r2.below A0)).mono ?_;rintro e u1 ⟨oa,oc,rfl,ho,hb0⟩;have hb1:=aL (w1:=wy) A0 hb0;have hz:=hb0)|(go_at_call 99;refine(kM _ a1 a2 c1 c2 (r1.below A1) (r2.below A1)).mono ?_;rintro e u1 ⟨oa,oc,rfl,ho,hb0⟩;have hb1:=aL (w1:=wy) A1 hb0;have hz:=z1.below hb0;have e0:=hz.cell 0 rfl;have e1:=hz.cell 1 rfl;have e2:=hz.cell 2 rfl;have e3:=hz.cell 3 rfl;have g0:=hz.frozen 0;have g1:=hz.frozen 1;have g2:=hz.frozen 2;have g3:=hz.frozen 3)|(go_at_call 99;refine(kM _ a1 a2 c1 c2 (r1.below A2) (r2.below A2)).mono ?_;rintro e u1 ⟨oa,oc,rfl,ho,hb0⟩;have hb1:=aL (w1:=wy) A2 hb0;have hz:=z2.below hb0;have e0:=hz.cell 0 rfl;have e1:=hz.cell 1 rfl;have e2:=hz.cell 2 rfl;have e3:=hz.cell 3 rfl;have g0:=hz.frozen 0;have g1:=hz.frozen 1;have g2:=hz.frozen 2;have g3:=hz.frozen 3))
  all_goals go_wp2_with fail
  all_goals go_meet
  . exact⟨u1.heap.size,wy.heap.size,u1.heap.size,oa,oc,rfl,hb1.size,by simp,Cls.new u1 _ _,((Own.of ho).wide (Nat.le_refl _) (Nat.le_refl _)).keep ((Below.refl _ _).alloc (Nat.le_refl _) _),Nat.le_refl _,by simp,.inl (Nat.le_refl _),hb1.alloc hb1.size _⟩
  . have lz:=hz.lt;exact⟨wy.heap.size,wy.heap.size+1,u1.heap.size,oa,oc,rfl,Nat.le_refl _,by simpa using lz,Cls.set (Cls.set (Cls.set (Cls.set hz 0 (.slice oa (L A).length oc) _ rfl) 1 (.slice none 0 0) _ rfl) 2 (.int .i64 E) _ rfl) 3 (.bool true) #[.slice oa (L A).length oc,.slice none 0 0,.int .i64 E,.bool true] rfl,Own.set4 ((Own.of ho).wide (by simp) (Nat.le_refl _)) (.inr (Nat.lt_succ_self _)) _ _ _ _,Nat.le_succ _,by simp,.inr (Nat.lt_succ_self _),NY hb1 (Nat.le_refl _) _ _ _ _⟩
 case rest=>
 obtain⟨gs,lo,hi,oa,oc,rfl,lg,lg2,hG,ho,l1,l2,hd,hbx⟩:=hcut;replace hR:=hR.below hbx;replace hP:=hP.below hbx;replace r1:=r1.below hbx;replace r2:=r2.below hbx;replace b0:=b0.below hbx b0.size;replace hF:=hF.below hbx;clear hbx kM
 rename World=>wv
 have l3:=hR.lt;have d5:=hP.cell 5 rfl;have A3:Below wv.heap.size wv (wv.alloc (.cells #[.int .u64 1] 25)):=(Below.refl _ _).alloc (Nat.le_refl _) _;go_upto_if 38 with fail
 go_cut[8] (fun z wx=>∃(a3:Option Addr)(c3:Nat),z=.slice a3 (L Tv).length c3/\Rd wx a3 (L Tv)/\Below wv.heap.size wv wx)
 case first=>
  cases x
  . replace HT:Tv=T+1:=by simpa using HT.out
    subst HT;go_wp2_with fail;refine(kA _ a2 _ c2 _ (r2.below A3) (wP wv _)).mono ?_;rintro e u2 ⟨a3,c3,rfl,ho3,hb3⟩;have r3:=Rd.own ho3;have hbx:Below wv.heap.size wv u2:=A3.trans (hb3.mono A3.size);go_wp2_with fail;go_meet
    case rel=>exact⟨a3,c3,rfl,r3,hbx⟩
  . replace HT:Tv=T:=by simpa using HT.out
    subst HT;go_wp2_with fail;go_meet
    case rel=>exact⟨a2,c2,rfl,r2,Below.refl _ _⟩
 case rest=>
 obtain⟨a3,c3,rfl,r3,hbx⟩:=hcut
 rename World=>u2
 clear A3 kA r2 HT;replace r1:=r1.below hbx;replace hR:=hR.below hbx;replace hG:=hG.below hbx;replace ho:=ho.keep hbx;replace b0:=b0.below hbx b0.size;replace hF:=hF.below hbx;have l4:=hbx.size;clear hbx d5 hP;go_wp2_with fail;refine(kN _ a1 a3 c1 c3 r1 r3).mono ?_;rintro e u3 ⟨ob,od,rfl,hob,hb3⟩;replace hR:=hR.below hb3;replace hG:=hG.below hb3;replace ho:=ho.keep hb3;replace b0:=b0.below hb3 b0.size;replace hF:=hF.below hb3;have l5:=hb3.size;have hoB:=Own.of hob;clear hb3 hob r1 r3 kN;have q0:=hG.cell 0 rfl;have q1:=hG.cell 1 rfl;have q2:=hG.cell 2 rfl;have q3:=hG.cell 3 rfl;have f1:=hG.frozen 1;go_upto_region 8 with fail;clear q0 q1 q2 q3 f1;replace hG:=hG.set 1 (.slice ob (L Bv).length od) #[.slice oa (L A).length oc,.slice ob (L Bv).length od,.int .i64 E,.bool true] rfl;replace hR:=hR.far ⟨gs,1,none⟩ (by simp only;omega) (.slice ob (L Bv).length od);replace b0:=b0.set gs 1 (.slice ob (L Bv).length od) (by omega);replace hF:=hF.set gs 1 (.slice ob (L Bv).length od) (by omega) (by omega)
 replace ho:=ho.grown (iI _ gs 1 (.slice ob (L Bv).length od)) (fun k h1 h2 e=>by injection e;omega)
 replace hoB:=hoB.grown (iI _ gs 1 (.slice ob (L Bv).length od)) (fun k h1 h2 e=>by injection e;omega)
 have lz:u3.heap.size=(u3.setCell ⟨gs,1,none⟩ (.slice ob (L Bv).length od)).heap.size:=by simp
 rw[lz]at hoB l5;clear lz;generalize u3.setCell ⟨gs,1,none⟩ (.slice ob (L Bv).length od)=u4 at*;have q0:=hG.cell 0 rfl;have q1:=hG.cell 1 rfl;have q2:=hG.cell 2 rfl;have q3:=hG.cell 3 rfl;have r0:=hR.cell 0 rfl;have s0:=hR.frozen 0;have r1:=hR.cell 1 rfl;have s1:=hR.frozen 1;have r2:=hR.cell 2 rfl;have s2:=hR.frozen 2;have r3:=hR.cell 3 rfl;have s3:=hR.frozen 3;go_wp2_with fail;have R5:=Cls.set (Cls.set (Cls.set (Cls.set hR 0 (.slice oa (L A).length oc) _ rfl) 1 (.slice ob (L Bv).length od) _ rfl) 2 (.int .i64 E) _ rfl) 3 (.bool true) #[.slice oa (L A).length oc,.slice ob (L Bv).length od,.int .i64 E,.bool true] rfl;have B5:=(((b0.set (w.heap.size+1) 0 (.slice oa (L A).length oc) (by omega)).set (w.heap.size+1) 1 (.slice ob (L Bv).length od) (by omega)).set (w.heap.size+1) 2 (.int .i64 E) (by omega)).set (w.heap.size+1) 3 (.bool true) (by omega);have F5:=(((hF.set (w.heap.size+1) 0 (.slice oa (L A).length oc) (by omega) (by omega)).set (w.heap.size+1) 1 (.slice ob (L Bv).length od) (by omega) (by omega)).set (w.heap.size+1) 2 (.int .i64 E) (by omega) (by omega)).set (w.heap.size+1) 3 (.bool true) (by omega) (by omega);have O1:=Own.set4 (g:=w.heap.size+1) ho (.inr (by omega)) (.slice oa (L A).length oc) (.slice ob (L Bv).length od) (.int .i64 E) (.bool true);have O2:=Own.set4 (g:=w.heap.size+1) hoB (.inr (by omega)) (.slice oa (L A).length oc) (.slice ob (L Bv).length od) (.int .i64 E) (.bool true);have lz:u4.heap.size=((((u4.setCell ⟨w.heap.size+1,0,none⟩ (.slice oa (L A).length oc)).setCell ⟨w.heap.size+1,1,none⟩ (.slice ob (L Bv).length od)).setCell ⟨w.heap.size+1,2,none⟩ (.int .i64 E)).setCell ⟨w.heap.size+1,3,none⟩ (.bool true)).heap.size:=by simp
 generalize((((u4.setCell ⟨w.heap.size+1,0,none⟩ (.slice oa (L A).length oc)).setCell ⟨w.heap.size+1,1,none⟩ (.slice ob (L Bv).length od)).setCell ⟨w.heap.size+1,2,none⟩ (.int .i64 E)).setCell ⟨w.heap.size+1,3,none⟩ (.bool true))=Yw at R5 B5 F5 O1 O2 lz|-;have p0:=R5.cell 0 rfl;have p1:=R5.cell 1 rfl;have p2:=R5.cell 2 rfl;have p3:=R5.cell 3 rfl;exact bodyPost_ret (v:=.agg #[.slice oa (L A).length oc,.slice ob (L Bv).length od,.int .i64 E,.bool true]) (by simp[results,Tryz.results82,go_sem,p0,p1,p2,p3]) rfl ⟨⟨oa,oc,ob,od,u2.heap.size,rfl,by omega,by omega,O1.wide (by omega) (by omega),O2.wide (Nat.le_refl _) (by omega),B5⟩,F5⟩

theorem wU (kd:Int)(ng:Bool)(a:Option Addr)(n c:Nat)(ex:Int)(m:Nat)(w:World)(hn:n<=10000)(hm:m=n-19):
 Calls Tryz.prog 84 #[.agg #[.int .i64 kd,.bool ng,.slice a n c,.int .i64 ex]] w fun e w'=>e=.returned (.int .i64 (m:Int))/\Below w.heap.size w w':=by
 have h1:IntKind.i64.wrap ((n:Int)-19)=(n:Int)-19:=by rw[IntKind.wrap_i64];omega
 have h2:(if(n:Int)-19<0 then 0 else(n:Int)-19)=(m:Int):=by split<;>omega
 have h3:max ((n:Int)-19) 0=(m:Int):=by omega
 clear hm;go_enter Tryz.func84,Tryz.ntmps84;go_wp2_with fail;go_ret;exact⟨rfl,(Below.refl _ _).alloc (Nat.le_refl _) _⟩

theorem IU (kd:Int)(ng:Bool)(a:Option Addr)(n c:Nat)(ex:Int)(m:Nat)(k:Int)(w:World)(hn:n<=10000)(hm:m=n-19)(he1:-2000000<=ex)(he2:ex<=2000000)(hk:k=ex+(m:Int)):
 Calls Tryz.prog 81 #[.agg #[.int .i64 kd,.bool ng,.slice a n c,.int .i64 ex]] w fun e w'=>e=.returned (.int .i64 k)/\Below w.heap.size w w':=by
 have h1:IntKind.i64.wrap (ex+(m:Int))=k:=by rw[IntKind.wrap_i64];omega
 have kC:=fun v:World=>wU kd ng a n c ex m v hn hm
 obtain⟨v0,ev0,cx,b0,-⟩:=eE w #[.int .i64 kd,.bool ng,.slice a n c,.int .i64 ex] 32;replace ev0:=hid ev0;clear hm hk;go_enter Tryz.func81,Tryz.ntmps81;go_upto_region 1 with fail;rw[ev0.out];clear ev0;have A0:Below v0.heap.size v0 v0.drew:=(Below.refl _ _).drew
 have KB:∀v,Below v0.heap.size v0 v->(fun v:World=>v.cell? ⟨w.heap.size,0,none⟩=some (.int .i64 kd)/\v.cell? ⟨w.heap.size,1,none⟩=some (.bool ng)/\v.cell? ⟨w.heap.size,2,none⟩=some (.slice a n c)/\v.cell? ⟨w.heap.size,3,none⟩=some (.int .i64 ex)) v:=fun v hv=>⟨(cx.below hv).cell 0 rfl,(cx.below hv).cell 1 rfl,(cx.below hv).cell 2 rfl,(cx.below hv).cell 3 rfl⟩
 go_region_held3 (fun v:World=>v.cell? ⟨w.heap.size,0,none⟩=some (.int .i64 kd)/\v.cell? ⟨w.heap.size,1,none⟩=some (.bool ng)/\v.cell? ⟨w.heap.size,2,none⟩=some (.slice a n c)/\v.cell? ⟨w.heap.size,3,none⟩=some (.int .i64 ex)) (first|with_reducible exact KB _ A0|with_reducible exact KB _ B1)
  (first|(go_at_call 84;refine(kC _).mono ?_;rintro e u1 ⟨rfl,hb⟩;have B1:=aK (w1:=v0) A0 hb;clear hb))
 all_goals go_wp2_with fail
 all_goals go_ret
 all_goals exact⟨rfl,b0.trans (B1.mono b0.size)⟩

theorem JY (bs:List Nat)(k:Nat)(h:k<bs.length):M.dec (bs.take (k+1))=M.dec (bs.take k)*10+(bs.getD k 0-48):=by
 rw[List.take_add_one,List.getElem?_eq_getElem h,Option.toList_some,M.xX,List.getD_eq_getElem?_getD,List.getElem?_eq_getElem h,Option.getD_some]

theorem JK (bs:List Nat)(hd:M.Dig bs)(k:Nat)(h:k<=19):M.dec (bs.take k)<10000000000000000000:=by
 have h1:=M.iU (bs.take k) (fun c hc=>hd c (List.mem_of_mem_take hc))
 have h2:10^(bs.take k).length<=10^19:=Nat.pow_le_pow_right (by omega) (by rw[List.length_take];omega);omega

theorem IX (kd:Int)(ng:Bool)(b off n c:Nat)(ex:Int)(bs:List Nat)(m t X:Nat)(w:World)(hl:bs.length=n)(hn:n<=10000)(hcap:n<=c)(hcm:c<=9223372036854775807)(hd:M.Dig bs)(hm:m=n-19)(ht:t+m=n)(hr:RdB w (some ⟨b,off,none⟩) bs)(hX:X=M.dec (bs.take t)):
 Calls Tryz.prog 83 #[.agg #[.int .i64 kd,.bool ng,.slice (some ⟨b,off,none⟩) n c,.int .i64 ex]] w fun e w'=>e=.returned (.int .u64 (X:Int))/\Below w.heap.size w w':=by
 have h1:IntKind.i64.wrap ((n:Int)-(m:Int))=(t:Int):=by rw[IntKind.wrap_i64];omega
 have t1:(t:Int)<=(c:Int):=by omega
 have t0:(0:Int)<=(t:Int):=by omega
 have t5:(t:Int)<=(n:Int):=by omega
 have t6:(c:Int)<=9223372036854775807:=by omega
 have t7:¬(t:Int)<0:=by omega
 have t8:¬(c:Int)<(t:Int):=by omega
 have t2:t<=19:=by omega
 have t3:t<=n:=by omega
 have t4:t<=c:=by omega
 have kC:=fun v:World=>wU kd ng (some ⟨b,off,none⟩) n c ex m v hn hm
 obtain⟨v0,ev0,cx,b0,-⟩:=eE w #[.int .i64 kd,.bool ng,.slice (some ⟨b,off,none⟩) n c,.int .i64 ex] 32;replace ev0:=hid ev0;have HX:=hid hX;have HM:=hid hm;have HT:=hid ht;have HL:=hid hl;clear hm ht hX hl;go_enter Tryz.func83,Tryz.ntmps83;go_upto_region 2 with fail;rw[ev0.out];clear ev0;have A0:Below v0.heap.size v0 v0.drew:=(Below.refl _ _).drew
 have KB:∀v,Below v0.heap.size v0 v->(fun v:World=>v.cell? ⟨w.heap.size,0,none⟩=some (.int .i64 kd)/\v.cell? ⟨w.heap.size,1,none⟩=some (.bool ng)/\v.cell? ⟨w.heap.size,2,none⟩=some (.slice (some ⟨b,off,none⟩) n c)/\v.cell? ⟨w.heap.size,3,none⟩=some (.int .i64 ex)) v:=fun v hv=>⟨(cx.below hv).cell 0 rfl,(cx.below hv).cell 1 rfl,(cx.below hv).cell 2 rfl,(cx.below hv).cell 3 rfl⟩
 go_cut[14,15,16] (fun s l i wx=>s=.slice (some ⟨b,off,none⟩) t c/\l=.int .i64 (t:Int)/\i=.int .i64 0/\Below v0.heap.size v0 wx)
 case first=>
  go_region_held3 (fun v:World=>v.cell? ⟨w.heap.size,0,none⟩=some (.int .i64 kd)/\v.cell? ⟨w.heap.size,1,none⟩=some (.bool ng)/\v.cell? ⟨w.heap.size,2,none⟩=some (.slice (some ⟨b,off,none⟩) n c)/\v.cell? ⟨w.heap.size,3,none⟩=some (.int .i64 ex)) (first|with_reducible exact KB _ A0|with_reducible exact KB _ B1)
   (first|(go_at_call 84;refine(kC _).mono ?_;rintro e u1 ⟨rfl,hb⟩;have B1:=aK (w1:=v0) A0 hb;clear hb))
  all_goals go_wp2_with fail
  all_goals go_meet
  all_goals exact⟨rfl,rfl,rfl,B1⟩
 case rest=>
 obtain⟨rfl,rfl,rfl,hb⟩:=hcut
 rename World=>v1
 replace b0:=b0.trans (hb.mono b0.size);replace hr:=hr.below b0;clear hb KB A0 cx kC h1;go_wp2_with fail
 go_loopw [3,16] (fun x i wr=>∃k:Nat,k<=t/\i=.int .i64 (k:Int)/\x=.int .u64 ((M.dec (bs.take k):Nat):Int)/\wr=v1) (fun _ i _=>t-(intOf i).toNat)
 case atStart=>exact⟨0,by omega,rfl,by simp[M.dec],rfl⟩
 case round=>
  obtain⟨k,hk,rfl,rfl,hwr⟩:=hrel;subst hwr;have hx:=JK bs hd k (by omega);obtain⟨xv,exv⟩:∃x,x=M.dec (bs.take k):=⟨_,rfl⟩;rw[<-exv]at hx|-
  by_cases hlt:k<t
  . have hlt':(k:Int)<(t:Int):=by omega
    have hkn:k<bs.length:=by rw[HL.out];omega
    obtain⟨b2,o2,hbo,hc2⟩:=hr.2 (by omega);simp only[Option.some.injEq,Addr.mk.injEq,and_true]at hbo;obtain⟨rfl,rfl⟩:=hbo;have hck:=hc2 k hkn;clear hc2;have hcd:=hd.get k hkn;have hs:=JY bs k hkn;have hx2:=JK bs hd (k+1) (by omega);obtain⟨cv,ecv⟩:∃x,x=bs.getD k 0:=⟨_,rfl⟩;rw[<-ecv]at hck hcd hs;rw[<-exv]at hs;obtain⟨dv,edv⟩:∃x,x=cv-48:=⟨_,rfl⟩;have hdI:(cv:Int)-48=(dv:Int):=by omega
    have hdb:dv<=9:=by omega
    rw[<-edv]at hs;rw[hs]at hx2;have HS:=hid hs;have ECV:=hid ecv;have EXV:=hid exv;have EDV:=hid edv;clear hs ecv exv edv hkn;obtain⟨x2,ex2⟩:∃x,x=xv*10:=⟨_,rfl⟩;have wx2:(xv:Int)*10=(x2:Int):=by omega
    obtain⟨x3,ex3⟩:∃x,x=x2+dv:=⟨_,rfl⟩;have wx3:(x2:Int)+(dv:Int)=(x3:Int):=by omega
    have hb3:x3<10000000000000000000:=by omega
    have hb2:x2<10000000000000000000:=by omega
    have EX2:=hid ex2;have EX3:=hid ex3;clear ex2 ex3 hx2;go_wp2_with fail;go_roundw
    case rel=>
     have e3:M.dec (bs.take (k+1))=x3:=by rw[HS.out,EX3.out,EX2.out]
     first|exact⟨k+1,by omega,by go_num,by rw[e3],by first|rfl|trivial⟩|((repeat apply Exists.intro);exact⟨⟨k+1,by omega,by go_num,by rw[e3],by first|rfl|trivial⟩,by first|rfl|trivial⟩)
    case measure=>simp[intOf];omega
  . have e:k=t:=by omega
    subst e;have e2:xv=X:=by rw[exv,HX.out]
    subst e2;have hlt':¬(k:Int)<(k:Int):=by omega
    have HB:=hid b0;clear exv b0;go_wp2_with fail;go_ret;exact⟨rfl,HB.out⟩

end Go.Proofs.YtfdgkleoaehjaaaGreatDoor
