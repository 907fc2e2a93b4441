import Derived.Deep.Cut
import Derived.Test.YtfdgkleoaehjaaaGreatDoorfGAL
set_option maxHeartbeats 4000000
set_option maxRecDepth 10000
namespace Go.Proofs.YtfdgkleoaehjaaaGreatDoor
open Go.RowKit
set_option linter.unusedVariables false
set_option maxRecDepth 100000

abbrev tI:Array Value:=#[.int .i64 0,.bool false,.slice none 0 0,.int .i64 0]

abbrev dS:Array Value:=#[.int .u64 0,.int .u64 0,.int .i64 0,.int .i64 0,.int .i64 0]

structure SB (w v:World):Prop where
 d:Cls v w.heap.size tI 32
 p:Cls v (w.heap.size+1) dS 29
 b:Below w.heap.size w v

theorem SB.below {w v v':World}(h:SB w v)(hb:Below v.heap.size v v'):SB w v':=⟨h.d.below hb,h.p.below hb,h.b.trans (hb.mono h.b.size)⟩

theorem SB.new (w:World):SB w ((w.alloc (.cells tI 32)).alloc (.cells dS 29)):=by
 have b1:Below w.heap.size w (w.alloc (.cells tI 32)):=(Below.refl _ _).alloc (Nat.le_refl _) _;have b2:Below (w.alloc (.cells tI 32)).heap.size (w.alloc (.cells tI 32)) ((w.alloc (.cells tI 32)).alloc (.cells dS 29)):=(Below.refl _ _).alloc (Nat.le_refl _) _;refine⟨(Cls.new w _ _).below b2,?_,b1.trans (b2.mono b1.size)⟩;have:=Cls.new (w.alloc (.cells tI 32)) dS 29
 rwa[World.size_alloc]at this

theorem SB.put {w v:World}(h:SB w v)(a0 a1 a2 a3 p0 p1 p2 p3 p4:Value):
 Cls (((((((((v.setCell ⟨w.heap.size,0,none⟩ a0).setCell ⟨w.heap.size,1,none⟩ a1).setCell ⟨w.heap.size,2,none⟩ a2).setCell ⟨w.heap.size,3,none⟩ a3).setCell ⟨w.heap.size+1,0,none⟩ p0).setCell ⟨w.heap.size+1,1,none⟩ p1).setCell ⟨w.heap.size+1,2,none⟩ p2).setCell ⟨w.heap.size+1,3,none⟩ p3).setCell ⟨w.heap.size+1,4,none⟩ p4) w.heap.size #[a0,a1,a2,a3] 32/\
 Cls (((((((((v.setCell ⟨w.heap.size,0,none⟩ a0).setCell ⟨w.heap.size,1,none⟩ a1).setCell ⟨w.heap.size,2,none⟩ a2).setCell ⟨w.heap.size,3,none⟩ a3).setCell ⟨w.heap.size+1,0,none⟩ p0).setCell ⟨w.heap.size+1,1,none⟩ p1).setCell ⟨w.heap.size+1,2,none⟩ p2).setCell ⟨w.heap.size+1,3,none⟩ p3).setCell ⟨w.heap.size+1,4,none⟩ p4) (w.heap.size+1) #[p0,p1,p2,p3,p4] 29/\
 Below w.heap.size w (((((((((v.setCell ⟨w.heap.size,0,none⟩ a0).setCell ⟨w.heap.size,1,none⟩ a1).setCell ⟨w.heap.size,2,none⟩ a2).setCell ⟨w.heap.size,3,none⟩ a3).setCell ⟨w.heap.size+1,0,none⟩ p0).setCell ⟨w.heap.size+1,1,none⟩ p1).setCell ⟨w.heap.size+1,2,none⟩ p2).setCell ⟨w.heap.size+1,3,none⟩ p3).setCell ⟨w.heap.size+1,4,none⟩ p4):=by
 have ne:w.heap.size≠w.heap.size+1:=by omega
 refine⟨?_,?_,?_⟩
 . exact((((((((h.d.set 0 a0 _ rfl).set 1 a1 _ rfl).set 2 a2 _ rfl).set 3 a3 _ rfl).far _ ne.symm _).far _ ne.symm _).far _ ne.symm _).far _ ne.symm _).far _ ne.symm _
 . exact((((((((h.p.far _ ne _).far _ ne _).far _ ne _).far _ ne _).set 0 p0 _ rfl).set 1 p1 _ rfl).set 2 p2 _ rfl).set 3 p3 _ rfl).set 4 p4 _ rfl
 . exact((((((((h.b.setCell (p:=⟨w.heap.size,0,none⟩) (Nat.le_refl _) _).setCell (p:=⟨w.heap.size,1,none⟩) (Nat.le_refl _) _).setCell (p:=⟨w.heap.size,2,none⟩) (Nat.le_refl _) _).setCell (p:=⟨w.heap.size,3,none⟩) (Nat.le_refl _) _).setCell (p:=⟨w.heap.size+1,0,none⟩) (Nat.le_succ _) _).setCell (p:=⟨w.heap.size+1,1,none⟩) (Nat.le_succ _) _).setCell (p:=⟨w.heap.size+1,2,none⟩) (Nat.le_succ _) _).setCell (p:=⟨w.heap.size+1,3,none⟩) (Nat.le_succ _) _).setCell (p:=⟨w.heap.size+1,4,none⟩) (Nat.le_succ _) _

theorem dQ {v:World}{g b o:Nat}{x y z u:Value}(h:b≠g):((((v.setCell ⟨g,0,none⟩ x).setCell ⟨g,1,none⟩ y).setCell ⟨g,2,none⟩ z).setCell ⟨g,3,none⟩ u).cell? ⟨b,o,none⟩=v.cell? ⟨b,o,none⟩:=
 World.cell?_of_block (w:=v) (a:=⟨b,o,none⟩) ((((Below.heap_setCell _ _ _ _ h).trans (Below.heap_setCell _ _ _ _ h)).trans (Below.heap_setCell _ _ _ _ h)).trans (Below.heap_setCell _ _ _ _ h))

theorem cF {v:World}{g b o:Nat}{x y z u t:Value}(h:b≠g):(((((v.setCell ⟨g,0,none⟩ x).setCell ⟨g,1,none⟩ y).setCell ⟨g,2,none⟩ z).setCell ⟨g,3,none⟩ u).setCell ⟨g,4,none⟩ t).cell? ⟨b,o,none⟩=v.cell? ⟨b,o,none⟩:=
 World.cell?_of_block (w:=v) (a:=⟨b,o,none⟩) (((((Below.heap_setCell _ _ _ _ h).trans (Below.heap_setCell _ _ _ _ h)).trans (Below.heap_setCell _ _ _ _ h)).trans (Below.heap_setCell _ _ _ _ h)).trans (Below.heap_setCell _ _ _ _ h))

theorem uE (f:Int)(hf:f<0\/4<=f)(ao:Option Addr)(n c:Nat)(w:World):
 Calls Tryz.prog 17 #[.int .i64 f,.slice ao n c] w fun e w'=>e=.returned (.tuple #[.agg #[.int .i64 0,.bool false,.slice none 0 0,.int .i64 0],.agg #[.int .u64 0,.int .u64 0,.int .i64 4,.int .i64 0,.int .i64 0],.bool true])/\Below w.heap.size w w':=by
 go_enter Tryz.func17,Tryz.ntmps17;go_wp2_with fail;have s0:=SB.new w;refine(zW f _ hf).mono ?_;rintro e v1 ⟨rfl,hb⟩;replace s0:=s0.below hb;have bA:Below v1.heap.size v1 (v1.alloc (.cells #[.int .i64 0,.int .i64 0,.int .i64 0,.int .i64 0,.int .i64 0,.bool false] 37)):=(Below.refl _ _).alloc (Nat.le_refl _) _;replace s0:=s0.below bA;clear hb bA;go_wp2_with fail;refine(MG _).mono ?_;rintro e v2 ⟨rfl,hb2⟩;replace s0:=s0.below hb2;have HP:=hid (s0.put (.int .i64 0) (.bool false) (.slice none 0 0) (.int .i64 0) (.int .u64 0) (.int .u64 0) (.int .i64 4) (.int .i64 0) (.int .i64 0));have c0:=s0.d.cell 0 rfl;have c1:=s0.d.cell 1 rfl;have c2:=s0.d.cell 2 rfl;have c3:=s0.d.cell 3 rfl;have q0:=s0.p.cell 0 rfl;have q1:=s0.p.cell 1 rfl;have q2:=s0.p.cell 2 rfl;have q3:=s0.p.cell 3 rfl;have q4:=s0.p.cell 4 rfl;have f0:=s0.d.frozen 0;have f1:=s0.d.frozen 1;have f2:=s0.d.frozen 2;have f3:=s0.d.frozen 3;have g0:=s0.p.frozen 0;have g1:=s0.p.frozen 1;have g2:=s0.p.frozen 2;have g3:=s0.p.frozen 3;have g4:=s0.p.frozen 4;clear s0;go_wp2_with fail;exact bodyPost_ret (v:=.tuple #[.agg #[.int .i64 0,.bool false,.slice none 0 0,.int .i64 0],.agg #[.int .u64 0,.int .u64 0,.int .i64 4,.int .i64 0,.int .i64 0],.bool true]) (by simp[results,Tryz.results17,go_sem,c0,c1,c2,c3,q0,q1,q2,q3,q4]) rfl ⟨rfl,HP.out.2.2⟩

theorem r9 (f:Int)(ao:Option Addr)(n c:Nat)(w:World)(hm:Fmt w)(F:M.Fm)
 (kE:∀v:World,Fmt v->Calls Tryz.prog 19 #[.int .i64 f] v fun e w'=>e=.returned (dv F)/\Below v.heap.size v w')
 (kK:∀v:World,Calls Tryz.prog 46 #[dv F] v fun e w'=>e=.returned (.bool true)/\Below v.heap.size v w')
 (kd:Int)(ng:Bool)(dl:Nat)(ex cd off:Int)(OK:World->Nat->Option Addr->Nat->Prop)(okB:∀v v' lo a k,OK v lo a k->Below v.heap.size v v'->OK v' lo a k)(okF:∀v lo a k (p:Addr) x,OK v lo a k->p.block<lo->OK (v.setCell p x) lo a k)(okL:∀v lo lo' a k,OK v lo a k->lo'<=lo->OK v lo' a k)
 (hcd:cd≠0)
 (kS:∀v:World,Below w.heap.size w v->Calls Tryz.prog 47 #[.slice ao n c] v fun e w'=>∃a cc,e=.returned (.agg #[.int .i64 kd,.bool ng,.slice a dl cc,.int .i64 ex,.int .i64 cd,.int .i64 off])/\OK w' v.heap.size a cc/\Below v.heap.size v w'):
 Calls Tryz.prog 17 #[.int .i64 f,.slice ao n c] w fun e w'=>e=.returned (.tuple #[.agg #[.int .i64 0,.bool false,.slice none 0 0,.int .i64 0],.agg #[.int .u64 0,.int .u64 0,.int .i64 cd,.int .i64 off,.int .i64 0],.bool true])/\Below w.heap.size w w':=by
 simp only[dv]at kE kK;go_enter Tryz.func17,Tryz.ntmps17;go_wp2_with fail;have s0:=SB.new w;refine(kE _ (hm.below s0.b)).mono ?_;rintro e v1 ⟨rfl,hb⟩;replace s0:=s0.below hb;have lgd0:=s0.p.lt;obtain⟨v1',ev1',cA,bA,-⟩:=eE v1 #[.int .i64 (F.p:Int),.int .i64 (1-(F.emax:Int)),.int .i64 (F.emax:Int),.int .i64 (F.wd:Int),.int .i64 (F.e:Int),.bool F.x] 37;replace ev1':=hid ev1';replace s0:=s0.below bA;clear hb bA;go_wp2_with fail;rw[ev1'.out];clear ev1';have lgd:w.heap.size+1<v1.heap.size:=lgd0;generalize v1.heap.size=gd at*;refine(kK _).mono ?_;rintro e v2 ⟨rfl,hb2⟩;replace s0:=s0.below hb2;replace cA:=cA.below hb2;clear hb2;go_wp2_with fail;have l2:w.heap.size+1<v2.heap.size:=s0.p.lt;refine(kS _ s0.b).mono ?_;rintro e v3 ⟨a,cc,rfl,hO,hb3⟩;replace s0:=s0.below hb3;replace cA:=cA.below hb3;have hb3s:=hb3.size;clear hb3;generalize v2.heap.size=lo at*;obtain⟨v4,ev4,cS,bS,-⟩:=eE v3 #[.int .i64 kd,.bool ng,.slice a dl cc,.int .i64 ex,.int .i64 cd,.int .i64 off] 34;replace ev4:=hid ev4;replace s0:=s0.below bS;replace cA:=cA.below bS;replace hO:=okB _ _ _ _ _ hO bS;clear bS;go_upto_region 5 with fail;rw[ev4.out];clear ev4;have lgs:w.heap.size+1<v3.heap.size:=Nat.lt_of_lt_of_le l2 hb3s;generalize v3.heap.size=gs at*;have x0:=cS.cell 0 rfl;have x1:=cS.cell 1 rfl;have x2:=cS.cell 2 rfl;have x3:=cS.cell 3 rfl;have x4:=cS.cell 4 rfl;have x5:=cS.cell 5 rfl;go_wp2_with fail;have ne1S:w.heap.size≠gs:=by omega
 have ne2S:w.heap.size+1≠gs:=by omega
 obtain⟨S,hS⟩:∃S:World->Prop,S=(fun v:World=>v.cell? ⟨gs,0,none⟩=some (.int .i64 kd)/\v.cell? ⟨gs,1,none⟩=some (.bool ng)/\v.cell? ⟨gs,2,none⟩=some (.slice a dl cc)/\v.cell? ⟨gs,3,none⟩=some (.int .i64 ex)/\v.cell? ⟨gs,4,none⟩=some (.int .i64 cd)/\v.cell? ⟨gs,5,none⟩=some (.int .i64 off)):=⟨_,rfl⟩
 have D1:∀v,Below v4.heap.size v4 v->S v:=fun v hv=>by rw[hS];exact⟨(cS.below hv).cell 0 rfl,(cS.below hv).cell 1 rfl,(cS.below hv).cell 2 rfl,(cS.below hv).cell 3 rfl,(cS.below hv).cell 4 rfl,(cS.below hv).cell 5 rfl⟩
 have K1:∀v:World,S v->S v.drew:=fun v h=>by rw[hS]at h|-;exact h
 have K2:∀(v:World) u0 u1 u2 u3,S v->S ((((v.setCell ⟨w.heap.size,0,none⟩ u0).setCell ⟨w.heap.size,1,none⟩ u1).setCell ⟨w.heap.size,2,none⟩ u2).setCell ⟨w.heap.size,3,none⟩ u3):=fun v u0 u1 u2 u3 h=>by rw[hS]at h|-;exact⟨(dQ (Ne.symm ne1S)).trans h.1,(dQ (Ne.symm ne1S)).trans h.2.1,(dQ (Ne.symm ne1S)).trans h.2.2.1,(dQ (Ne.symm ne1S)).trans h.2.2.2.1,(dQ (Ne.symm ne1S)).trans h.2.2.2.2.1,(dQ (Ne.symm ne1S)).trans h.2.2.2.2.2⟩
 have K3:∀(v:World) u4 u5 u6 u7 u8,S v->S (((((v.setCell ⟨w.heap.size+1,0,none⟩ u4).setCell ⟨w.heap.size+1,1,none⟩ u5).setCell ⟨w.heap.size+1,2,none⟩ u6).setCell ⟨w.heap.size+1,3,none⟩ u7).setCell ⟨w.heap.size+1,4,none⟩ u8):=fun v u4 u5 u6 u7 u8 h=>by rw[hS]at h|-;exact⟨(cF (Ne.symm ne2S)).trans h.1,(cF (Ne.symm ne2S)).trans h.2.1,(cF (Ne.symm ne2S)).trans h.2.2.1,(cF (Ne.symm ne2S)).trans h.2.2.2.1,(cF (Ne.symm ne2S)).trans h.2.2.2.2.1,(cF (Ne.symm ne2S)).trans h.2.2.2.2.2⟩
 have GD:∀v:World,Below w.heap.size w v/\OK v lo a cc->Below w.heap.size w v.drew/\OK v.drew lo a cc:=fun v h=>⟨h.1.drew,okB _ _ _ _ _ h.2 (Below.refl _ _).drew⟩
 have GS:∀(v:World)(p:Addr) x,w.heap.size<=p.block->p.block<lo->Below w.heap.size w v/\OK v lo a cc->Below w.heap.size w (v.setCell p x)/\OK (v.setCell p x) lo a cc:=fun v p x h1 h2 h=>⟨h.1.setCell h1 _,okF _ _ _ _ _ _ h.2 h2⟩
 have hrf:Below v4.heap.size v4 v4:=Below.refl _ _;have hdr:Below v4.heap.size v4 v4.drew:=(Below.refl _ _).drew;have cc0:=s0.d.cell 0 rfl;have cc1:=s0.d.cell 1 rfl;have cc2:=s0.d.cell 2 rfl;have cc3:=s0.d.cell 3 rfl;have qq0:=s0.p.cell 0 rfl;have qq1:=s0.p.cell 1 rfl;have qq2:=s0.p.cell 2 rfl;have qq3:=s0.p.cell 3 rfl;have qq4:=s0.p.cell 4 rfl;have ff0:=s0.d.frozen 0;have ff1:=s0.d.frozen 1;have ff2:=s0.d.frozen 2;have ff3:=s0.d.frozen 3;have gg0:=s0.p.frozen 0;have gg1:=s0.p.frozen 1;have gg2:=s0.p.frozen 2;have gg3:=s0.p.frozen 3;have gg4:=s0.p.frozen 4;have s5:=s0.below hdr;have o5:Below w.heap.size w v4/\OK v4 lo a cc:=⟨s0.b,hO⟩;have c0:=s5.d.cell 0 rfl;have c1:=s5.d.cell 1 rfl;have c2:=s5.d.cell 2 rfl;have c3:=s5.d.cell 3 rfl;have q0:=s5.p.cell 0 rfl;have q1:=s5.p.cell 1 rfl;have q2:=s5.p.cell 2 rfl;have q3:=s5.p.cell 3 rfl;have q4:=s5.p.cell 4 rfl;have f0:=s5.d.frozen 0;have f1:=s5.d.frozen 1;have f2:=s5.d.frozen 2;have f3:=s5.d.frozen 3;have g0:=s5.p.frozen 0;have g1:=s5.p.frozen 1;have g2:=s5.p.frozen 2;have g3:=s5.p.frozen 3;have g4:=s5.p.frozen 4;subst hS
 go_region_held3 (fun v:World=>v.cell? ⟨gs,0,none⟩=some (.int .i64 kd)/\v.cell? ⟨gs,1,none⟩=some (.bool ng)/\v.cell? ⟨gs,2,none⟩=some (.slice a dl cc)/\v.cell? ⟨gs,3,none⟩=some (.int .i64 ex)/\v.cell? ⟨gs,4,none⟩=some (.int .i64 cd)/\v.cell? ⟨gs,5,none⟩=some (.int .i64 off)) (repeat' (first|(with_reducible exact D1 _ (by assumption))|(with_reducible refine K1 _ ?_)|(with_reducible refine K2 _ _ _ _ _ ?_)|(with_reducible refine K3 _ _ _ _ _ _ ?_)))
  (fail)
 all_goals go_wp2_with fail
 all_goals refine bodyPost_ret (v:=.tuple #[.agg #[.int .i64 0,.bool false,.slice none 0 0,.int .i64 0],.agg #[.int .u64 0,.int .u64 0,.int .i64 cd,.int .i64 off,.int .i64 0],.bool true]) (by simp[results,Tryz.results17,go_sem,cc0,cc1,cc2,cc3,qq0,qq1,qq2,qq3,qq4]) rfl ⟨rfl,?_⟩
 all_goals refine(fun h=>h.1:∀{v:World},Below w.heap.size w v/\OK v lo a cc->Below w.heap.size w v) ?_
 all_goals(repeat' (first|(with_reducible exact o5)|(with_reducible refine GD _ ?_)|(with_reducible refine GS _ _ _ (by simp only;omega) (by simp only;omega) ?_)))

theorem gY (f:Int)(ao:Option Addr)(n c:Nat)(w:World)(hm:Fmt w)(F:M.Fm)
 (kE:∀v:World,Fmt v->Calls Tryz.prog 19 #[.int .i64 f] v fun e w'=>e=.returned (dv F)/\Below v.heap.size v w')
 (kK:∀v:World,Calls Tryz.prog 46 #[dv F] v fun e w'=>e=.returned (.bool true)/\Below v.heap.size v w')
 (kd:Int)(ng:Bool)(dl:Nat)(ex cd off:Int)(OK:World->Nat->Option Addr->Nat->Prop)(okB:∀v v' lo a k,OK v lo a k->Below v.heap.size v v'->OK v' lo a k)(okF:∀v lo a k (p:Addr) x,OK v lo a k->p.block<lo->OK (v.setCell p x) lo a k)(okL:∀v lo lo' a k,OK v lo a k->lo'<=lo->OK v lo' a k)
 (hcd:cd=0)(cl:Int)(np:Bool)(hK:kd=2/\cl=4/\ng=np\/kd=3/\cl=5/\np=false\/kd≠2/\kd≠3/\dl=0/\cl=1/\ng=np)(h l:Int)(kP:∀v:World,Calls Tryz.prog 48 #[dv F,.agg #[.int .i64 cl,.bool np,.int .u64 0,.int .u64 0,.int .i64 0]] v fun e w'=>e=.returned (.agg #[.int .u64 h,.int .u64 l])/\Below v.heap.size v w')
 (kS:∀v:World,Below w.heap.size w v->Calls Tryz.prog 47 #[.slice ao n c] v fun e w'=>∃a cc,e=.returned (.agg #[.int .i64 kd,.bool ng,.slice a dl cc,.int .i64 ex,.int .i64 cd,.int .i64 off])/\OK w' v.heap.size a cc/\Below v.heap.size v w'):
 Calls Tryz.prog 17 #[.int .i64 f,.slice ao n c] w fun e w'=>∃a cc,e=.returned (.tuple #[.agg #[.int .i64 kd,.bool ng,.slice a dl cc,.int .i64 ex],.agg #[.int .u64 h,.int .u64 l,.int .i64 0,.int .i64 0,.int .i64 0],.bool true])/\OK w' w.heap.size a cc/\Below w.heap.size w w':=by
 simp only[dv]at kE kK kP;subst hcd;have HK:=hid hK;clear hK;go_enter Tryz.func17,Tryz.ntmps17;go_wp2_with fail;have s0:=SB.new w;refine(kE _ (hm.below s0.b)).mono ?_;rintro e v1 ⟨rfl,hb⟩;replace s0:=s0.below hb;have lgd0:=s0.p.lt;obtain⟨v1',ev1',cA,bA,-⟩:=eE v1 #[.int .i64 (F.p:Int),.int .i64 (1-(F.emax:Int)),.int .i64 (F.emax:Int),.int .i64 (F.wd:Int),.int .i64 (F.e:Int),.bool F.x] 37;replace ev1':=hid ev1';replace s0:=s0.below bA;clear hb bA;go_wp2_with fail;rw[ev1'.out];clear ev1';have lgd:w.heap.size+1<v1.heap.size:=lgd0;generalize v1.heap.size=gd at*;refine(kK _).mono ?_;rintro e v2 ⟨rfl,hb2⟩;replace s0:=s0.below hb2;replace cA:=cA.below hb2;clear hb2;go_wp2_with fail;have l2:w.heap.size+1<v2.heap.size:=s0.p.lt;refine(kS _ s0.b).mono ?_;rintro e v3 ⟨a,cc,rfl,hO,hb3⟩;replace s0:=s0.below hb3;replace cA:=cA.below hb3;have hb3s:=hb3.size;clear hb3;generalize v2.heap.size=lo at*;obtain⟨v4,ev4,cS,bS,-⟩:=eE v3 #[.int .i64 kd,.bool ng,.slice a dl cc,.int .i64 ex,.int .i64 0,.int .i64 off] 34;replace ev4:=hid ev4;replace s0:=s0.below bS;replace cA:=cA.below bS;replace hO:=okB _ _ _ _ _ hO bS;clear bS;go_upto_region 5 with fail;rw[ev4.out];clear ev4;have lgs:w.heap.size+1<v3.heap.size:=Nat.lt_of_lt_of_le l2 hb3s;generalize v3.heap.size=gs at*;rcases HK.out with⟨hk,rfl,rfl⟩|⟨hk,rfl,rfl⟩|⟨hk,hk3,hdl,rfl,rfl⟩
 all_goals(
  clear HK;have x0:=cS.cell 0 rfl;have x1:=cS.cell 1 rfl;have x2:=cS.cell 2 rfl;have x3:=cS.cell 3 rfl;have x4:=cS.cell 4 rfl;have x5:=cS.cell 5 rfl;go_wp2_with fail;have ne1S:w.heap.size≠gs:=by omega
  have ne2S:w.heap.size+1≠gs:=by omega
  have ne1A:w.heap.size≠gd:=by omega
  have ne2A:w.heap.size+1≠gd:=by omega
  obtain⟨S,hS⟩:∃S:World->Prop,S=(fun v:World=>v.cell? ⟨gs,0,none⟩=some (.int .i64 kd)/\v.cell? ⟨gs,1,none⟩=some (.bool ng)/\v.cell? ⟨gs,2,none⟩=some (.slice a dl cc)/\v.cell? ⟨gs,3,none⟩=some (.int .i64 ex)/\v.cell? ⟨gs,4,none⟩=some (.int .i64 0)/\v.cell? ⟨gs,5,none⟩=some (.int .i64 off)/\v.cell? ⟨gd,0,none⟩=some (.int .i64 (F.p:Int))/\v.cell? ⟨gd,1,none⟩=some (.int .i64 (1-(F.emax:Int)))/\v.cell? ⟨gd,2,none⟩=some (.int .i64 (F.emax:Int))/\v.cell? ⟨gd,3,none⟩=some (.int .i64 (F.wd:Int))/\v.cell? ⟨gd,4,none⟩=some (.int .i64 (F.e:Int))/\v.cell? ⟨gd,5,none⟩=some (.bool F.x)):=⟨_,rfl⟩
  have D1:∀v,Below v4.heap.size v4 v->S v:=fun v hv=>by rw[hS];exact⟨(cS.below hv).cell 0 rfl,(cS.below hv).cell 1 rfl,(cS.below hv).cell 2 rfl,(cS.below hv).cell 3 rfl,(cS.below hv).cell 4 rfl,(cS.below hv).cell 5 rfl,(cA.below hv).cell 0 rfl,(cA.below hv).cell 1 rfl,(cA.below hv).cell 2 rfl,(cA.below hv).cell 3 rfl,(cA.below hv).cell 4 rfl,(cA.below hv).cell 5 rfl⟩
  have K1:∀v:World,S v->S v.drew:=fun v h=>by rw[hS]at h|-;exact h
  have K2:∀(v:World) u0 u1 u2 u3,S v->S ((((v.setCell ⟨w.heap.size,0,none⟩ u0).setCell ⟨w.heap.size,1,none⟩ u1).setCell ⟨w.heap.size,2,none⟩ u2).setCell ⟨w.heap.size,3,none⟩ u3):=fun v u0 u1 u2 u3 h=>by rw[hS]at h|-;exact⟨(dQ (Ne.symm ne1S)).trans h.1,(dQ (Ne.symm ne1S)).trans h.2.1,(dQ (Ne.symm ne1S)).trans h.2.2.1,(dQ (Ne.symm ne1S)).trans h.2.2.2.1,(dQ (Ne.symm ne1S)).trans h.2.2.2.2.1,(dQ (Ne.symm ne1S)).trans h.2.2.2.2.2.1,(dQ (Ne.symm ne1A)).trans h.2.2.2.2.2.2.1,(dQ (Ne.symm ne1A)).trans h.2.2.2.2.2.2.2.1,(dQ (Ne.symm ne1A)).trans h.2.2.2.2.2.2.2.2.1,(dQ (Ne.symm ne1A)).trans h.2.2.2.2.2.2.2.2.2.1,(dQ (Ne.symm ne1A)).trans h.2.2.2.2.2.2.2.2.2.2.1,(dQ (Ne.symm ne1A)).trans h.2.2.2.2.2.2.2.2.2.2.2⟩
  have K3:∀(v:World) u4 u5 u6 u7 u8,S v->S (((((v.setCell ⟨w.heap.size+1,0,none⟩ u4).setCell ⟨w.heap.size+1,1,none⟩ u5).setCell ⟨w.heap.size+1,2,none⟩ u6).setCell ⟨w.heap.size+1,3,none⟩ u7).setCell ⟨w.heap.size+1,4,none⟩ u8):=fun v u4 u5 u6 u7 u8 h=>by rw[hS]at h|-;exact⟨(cF (Ne.symm ne2S)).trans h.1,(cF (Ne.symm ne2S)).trans h.2.1,(cF (Ne.symm ne2S)).trans h.2.2.1,(cF (Ne.symm ne2S)).trans h.2.2.2.1,(cF (Ne.symm ne2S)).trans h.2.2.2.2.1,(cF (Ne.symm ne2S)).trans h.2.2.2.2.2.1,(cF (Ne.symm ne2A)).trans h.2.2.2.2.2.2.1,(cF (Ne.symm ne2A)).trans h.2.2.2.2.2.2.2.1,(cF (Ne.symm ne2A)).trans h.2.2.2.2.2.2.2.2.1,(cF (Ne.symm ne2A)).trans h.2.2.2.2.2.2.2.2.2.1,(cF (Ne.symm ne2A)).trans h.2.2.2.2.2.2.2.2.2.2.1,(cF (Ne.symm ne2A)).trans h.2.2.2.2.2.2.2.2.2.2.2⟩
  have GD:∀v:World,Below w.heap.size w v/\OK v lo a cc->Below w.heap.size w v.drew/\OK v.drew lo a cc:=fun v h=>⟨h.1.drew,okB _ _ _ _ _ h.2 (Below.refl _ _).drew⟩
  have GS:∀(v:World)(p:Addr) x,w.heap.size<=p.block->p.block<lo->Below w.heap.size w v/\OK v lo a cc->Below w.heap.size w (v.setCell p x)/\OK (v.setCell p x) lo a cc:=fun v p x h1 h2 h=>⟨h.1.setCell h1 _,okF _ _ _ _ _ _ h.2 h2⟩
  have hrf:Below v4.heap.size v4 v4:=Below.refl _ _;have hdr:Below v4.heap.size v4 v4.drew:=(Below.refl _ _).drew;clear x0 x1 x2 x3 x4 x5;subst hS
  go_region_held3 (fun v:World=>v.cell? ⟨gs,0,none⟩=some (.int .i64 kd)/\v.cell? ⟨gs,1,none⟩=some (.bool ng)/\v.cell? ⟨gs,2,none⟩=some (.slice a dl cc)/\v.cell? ⟨gs,3,none⟩=some (.int .i64 ex)/\v.cell? ⟨gs,4,none⟩=some (.int .i64 0)/\v.cell? ⟨gs,5,none⟩=some (.int .i64 off)/\v.cell? ⟨gd,0,none⟩=some (.int .i64 (F.p:Int))/\v.cell? ⟨gd,1,none⟩=some (.int .i64 (1-(F.emax:Int)))/\v.cell? ⟨gd,2,none⟩=some (.int .i64 (F.emax:Int))/\v.cell? ⟨gd,3,none⟩=some (.int .i64 (F.wd:Int))/\v.cell? ⟨gd,4,none⟩=some (.int .i64 (F.e:Int))/\v.cell? ⟨gd,5,none⟩=some (.bool F.x)) (repeat' (first|(with_reducible exact D1 _ (by assumption))|(with_reducible refine K1 _ ?_)|(with_reducible refine K2 _ _ _ _ _ ?_)|(with_reducible refine K3 _ _ _ _ _ _ ?_)))
   (first|(go_at_call 48;refine(kP _).mono ?_;rintro e v5 ⟨rfl,hb5'⟩;have hb5:=hdr.trans (hb5'.mono (Nat.le_refl _));have s5:=s0.below hb5;have o5:Below w.heap.size w _/\OK _ lo a cc:=⟨s5.b,okB _ _ _ _ _ hO hb5⟩;have c0:=s5.d.cell 0 rfl;have c1:=s5.d.cell 1 rfl;have c2:=s5.d.cell 2 rfl;have c3:=s5.d.cell 3 rfl;have q0:=s5.p.cell 0 rfl;have q1:=s5.p.cell 1 rfl;have q2:=s5.p.cell 2 rfl;have q3:=s5.p.cell 3 rfl;have q4:=s5.p.cell 4 rfl;have f0:=s5.d.frozen 0;have f1:=s5.d.frozen 1;have f2:=s5.d.frozen 2;have f3:=s5.d.frozen 3;have g0:=s5.p.frozen 0;have g1:=s5.p.frozen 1;have g2:=s5.p.frozen 2;have g3:=s5.p.frozen 3;have g4:=s5.p.frozen 4))
  all_goals go_wp2_with fail
  all_goals refine bodyPost_ret (v:=.tuple #[.agg #[.int .i64 kd,.bool ng,.slice a dl cc,.int .i64 ex],.agg #[.int .u64 h,.int .u64 l,.int .i64 0,.int .i64 0,.int .i64 0],.bool true]) (by first|(simp[results,Tryz.results17,go_sem,c0,c1,c2,c3,q0,q1,q2,q3,q4,hk];done)|simp[results,Tryz.results17,go_sem,c0,c1,c2,c3,q0,q1,q2,q3,q4,hdl]) rfl ⟨a,cc,rfl,?_⟩
  all_goals refine(fun h=>⟨okL _ _ _ _ _ h.2 (by omega),h.1⟩:∀{v:World},Below w.heap.size w v/\OK v lo a cc->OK v w.heap.size a cc/\Below w.heap.size w v) ?_
  all_goals(repeat' (first|(with_reducible exact o5)|(with_reducible refine GD _ ?_)|(with_reducible refine GS _ _ _ (by simp only;omega) (by simp only;omega) ?_))))

theorem sI (f:Int)(ao:Option Addr)(n c:Nat)(w:World)(hm:Fmt w)(F:M.Fm)
 (kE:∀v:World,Fmt v->Calls Tryz.prog 19 #[.int .i64 f] v fun e w'=>e=.returned (dv F)/\Below v.heap.size v w')
 (kK:∀v:World,Calls Tryz.prog 46 #[dv F] v fun e w'=>e=.returned (.bool true)/\Below v.heap.size v w')
 (kd:Int)(ng:Bool)(dl:Nat)(ex cd off:Int)(OK:World->Nat->Option Addr->Nat->Prop)(okB:∀v v' lo a k,OK v lo a k->Below v.heap.size v v'->OK v' lo a k)(okF:∀v lo a k (p:Addr) x,OK v lo a k->p.block<lo->OK (v.setCell p x) lo a k)(okL:∀v lo lo' a k,OK v lo a k->lo'<=lo->OK v lo' a k)
 (hcd:cd=0)(hk:kd≠2)(hk3:kd≠3)(hdl:dl≠0)
 (kS:∀v:World,Below w.heap.size w v->Calls Tryz.prog 47 #[.slice ao n c] v fun e w'=>∃a cc,e=.returned (.agg #[.int .i64 kd,.bool ng,.slice a dl cc,.int .i64 ex,.int .i64 cd,.int .i64 off])/\OK w' v.heap.size a cc/\Below v.heap.size v w'):
 Calls Tryz.prog 17 #[.int .i64 f,.slice ao n c] w fun e w'=>∃a cc,e=.returned (.tuple #[.agg #[.int .i64 kd,.bool ng,.slice a dl cc,.int .i64 ex],.agg #[.int .u64 0,.int .u64 0,.int .i64 0,.int .i64 0,.int .i64 0],.bool false])/\OK w' w.heap.size a cc/\Below w.heap.size w w':=by
 simp only[dv]at kE kK;subst hcd;go_enter Tryz.func17,Tryz.ntmps17;go_wp2_with fail;have s0:=SB.new w;refine(kE _ (hm.below s0.b)).mono ?_;rintro e v1 ⟨rfl,hb⟩;replace s0:=s0.below hb;have lgd0:=s0.p.lt;obtain⟨v1',ev1',cA,bA,-⟩:=eE v1 #[.int .i64 (F.p:Int),.int .i64 (1-(F.emax:Int)),.int .i64 (F.emax:Int),.int .i64 (F.wd:Int),.int .i64 (F.e:Int),.bool F.x] 37;replace ev1':=hid ev1';replace s0:=s0.below bA;clear hb bA;go_wp2_with fail;rw[ev1'.out];clear ev1';have lgd:w.heap.size+1<v1.heap.size:=lgd0;generalize v1.heap.size=gd at*;refine(kK _).mono ?_;rintro e v2 ⟨rfl,hb2⟩;replace s0:=s0.below hb2;replace cA:=cA.below hb2;clear hb2;go_wp2_with fail;have l2:w.heap.size+1<v2.heap.size:=s0.p.lt;refine(kS _ s0.b).mono ?_;rintro e v3 ⟨a,cc,rfl,hO,hb3⟩;replace s0:=s0.below hb3;replace cA:=cA.below hb3;have hb3s:=hb3.size;clear hb3;generalize v2.heap.size=lo at*;obtain⟨v4,ev4,cS,bS,-⟩:=eE v3 #[.int .i64 kd,.bool ng,.slice a dl cc,.int .i64 ex,.int .i64 0,.int .i64 off] 34;replace ev4:=hid ev4;replace s0:=s0.below bS;replace cA:=cA.below bS;replace hO:=okB _ _ _ _ _ hO bS;clear bS;go_upto_region 5 with fail;rw[ev4.out];clear ev4;have lgs:w.heap.size+1<v3.heap.size:=Nat.lt_of_lt_of_le l2 hb3s;generalize v3.heap.size=gs at*;have x0:=cS.cell 0 rfl;have x1:=cS.cell 1 rfl;have x2:=cS.cell 2 rfl;have x3:=cS.cell 3 rfl;have x4:=cS.cell 4 rfl;have x5:=cS.cell 5 rfl;have hdl':¬(dl:Int)=0:=by omega
 have HP:=hid (s0.put (.int .i64 kd) (.bool ng) (.slice a dl cc) (.int .i64 ex) (.int .u64 0) (.int .u64 0) (.int .i64 0) (.int .i64 0) (.int .i64 0));have c0:=s0.d.cell 0 rfl;have c1:=s0.d.cell 1 rfl;have c2:=s0.d.cell 2 rfl;have c3:=s0.d.cell 3 rfl;have q0:=s0.p.cell 0 rfl;have q1:=s0.p.cell 1 rfl;have q2:=s0.p.cell 2 rfl;have q3:=s0.p.cell 3 rfl;have q4:=s0.p.cell 4 rfl;have f0:=s0.d.frozen 0;have f1:=s0.d.frozen 1;have f2:=s0.d.frozen 2;have f3:=s0.d.frozen 3;have g0:=s0.p.frozen 0;have g1:=s0.p.frozen 1;have g2:=s0.p.frozen 2;have g3:=s0.p.frozen 3;have g4:=s0.p.frozen 4;clear s0;go_wp2_with fail;exact bodyPost_ret (v:=.tuple #[.agg #[.int .i64 kd,.bool ng,.slice a dl cc,.int .i64 ex],.agg #[.int .u64 0,.int .u64 0,.int .i64 0,.int .i64 0,.int .i64 0],.bool false]) (by simp[results,Tryz.results17,go_sem,c0,c1,c2,c3,q0,q1,q2,q3,q4]) rfl ⟨a,cc,rfl,okL _ _ _ _ _ ((okF _ _ _ _ _ _ (okF _ _ _ _ _ _ (okF _ _ _ _ _ _ (okF _ _ _ _ _ _ (okF _ _ _ _ _ _ (okF _ _ _ _ _ _ (okF _ _ _ _ _ _ (okF _ _ _ _ _ _ (okF _ _ _ _ _ _ hO (by simp only;omega)) (by simp only;omega)) (by simp only;omega)) (by simp only;omega)) (by simp only;omega)) (by simp only;omega)) (by simp only;omega)) (by simp only;omega)) (by simp only;omega))) (by omega),HP.out.2.2⟩

theorem iS {B:Nat}{w W:World}(h:Below B w W)(g:Nat)(hg:B<=g)(a b c d e:Value):Below B w (((((W.setCell ⟨g,0,none⟩ a).setCell ⟨g,1,none⟩ b).setCell ⟨g,2,none⟩ c).setCell ⟨g,3,none⟩ d).setCell ⟨g,4,none⟩ e):=
 ((((h.setCell (p:=⟨g,0,none⟩) hg _).setCell (p:=⟨g,1,none⟩) hg _).setCell (p:=⟨g,2,none⟩) hg _).setCell (p:=⟨g,3,none⟩) hg _).setCell (p:=⟨g,4,none⟩) hg _

theorem eK (f:Int)(ao:Option Addr)(n c:Nat)(w:World)(kd:Int)(ng:Bool)(dl:Nat)(ex h l cd off fl:Int)
 (kS:∀v:World,Below w.heap.size w v->Calls Tryz.prog 17 #[.int .i64 f,.slice ao n c] v fun e w'=>∃a cc,e=.returned (.tuple #[.agg #[.int .i64 kd,.bool ng,.slice a dl cc,.int .i64 ex],.agg #[.int .u64 h,.int .u64 l,.int .i64 cd,.int .i64 off,.int .i64 fl],.bool true])/\Below v.heap.size v w'):
 Calls Tryz.prog 6 #[.int .i64 f,.slice ao n c] w fun e w'=>e=.returned (.agg #[.int .u64 h,.int .u64 l,.int .i64 cd,.int .i64 off,.int .i64 fl])/\Below w.heap.size w w':=by
 have b0:Below w.heap.size w (w.alloc (.cells dS 29)):=(Below.refl _ _).alloc (Nat.le_refl _) _;have c0:Cls (w.alloc (.cells dS 29)) w.heap.size dS 29:=Cls.new _ _ _;go_enter Tryz.func6,Tryz.ntmps6;go_wp2_with fail;refine(kS _ b0).mono ?_;rintro e v1 ⟨a,cc,rfl,hb⟩;obtain⟨cx,cp,hb2⟩:=Cls.new2 v1 #[.int .i64 kd,.bool ng,.slice a dl cc,.int .i64 ex] #[.int .u64 h,.int .u64 l,.int .i64 cd,.int .i64 off,.int .i64 fl] 32 29;replace hb:=hb.trans (hb2.mono hb.size);replace b0:=b0.trans (hb.mono b0.size);replace c0:=c0.below hb;clear hb hb2;go_upto_region 2 with fail;generalize((v1.alloc (.cells #[.int .i64 kd,.bool ng,.slice a dl cc,.int .i64 ex] 32)).alloc (.cells #[.int .u64 h,.int .u64 l,.int .i64 cd,.int .i64 off,.int .i64 fl] 29))=v2 at*;generalize v1.heap.size=gx at*;have RB:=hid (iS b0 _ (Nat.le_refl _) (.int .u64 h) (.int .u64 l) (.int .i64 cd) (.int .i64 off) (.int .i64 fl));have x0:=c0.cell 0 rfl;have x1:=c0.cell 1 rfl;have x2:=c0.cell 2 rfl;have x3:=c0.cell 3 rfl;have x4:=c0.cell 4 rfl;have z0:=c0.frozen 0;have z1:=c0.frozen 1;have z2:=c0.frozen 2;have z3:=c0.frozen 3;have z4:=c0.frozen 4;have y0:=cp.cell 0 rfl;have y1:=cp.cell 1 rfl;have y2:=cp.cell 2 rfl;have y3:=cp.cell 3 rfl;have y4:=cp.cell 4 rfl;clear b0 c0 cp;go_wp2_with fail;exact bodyPost_ret (v:=.agg #[.int .u64 h,.int .u64 l,.int .i64 cd,.int .i64 off,.int .i64 fl]) (by simp[results,Tryz.results6,go_sem,x0,x1,x2,x3,x4]) rfl ⟨rfl,RB.out⟩

theorem rJ (F:M.Fm)(ng:Bool)(a b:Option Addr)(n m c d:Nat)(h l fl:Int)(ok:Bool)(w:World)
 (kR:∀v:World,Below w.heap.size w v->Calls Tryz.prog 98 #[dv F,.bool ng,.slice a n c,.slice b m d] v fun e w'=>e=.returned (.agg #[.int .u64 h,.int .u64 l,.int .i64 fl,.bool ok])/\Below v.heap.size v w'):
 Calls Tryz.prog 50 #[dv F,.bool ng,.agg #[.slice a n c,.slice b m d]] w fun e w'=>e=.returned (.agg #[.int .u64 h,.int .u64 l,.int .i64 0,.int .i64 0,.int .i64 fl])/\Below w.heap.size w w':=by
 simp only[dv]at kR|-;obtain⟨_,_,cr,b0⟩:=Cls.new3 w #[.int .i64 (F.p:Int),.int .i64 (1-(F.emax:Int)),.int .i64 (F.emax:Int),.int .i64 (F.wd:Int),.int .i64 (F.e:Int),.bool F.x] #[.slice a n c,.slice b m d] dS 37 90 29;go_enter Tryz.func50,Tryz.ntmps50;go_wp2_with fail;refine(kR _ b0).mono ?_;rintro e v1 ⟨rfl,hb⟩;obtain⟨v2,ev2,cx,hb2,-⟩:=eE v1 #[.int .u64 h,.int .u64 l,.int .i64 fl,.bool ok] 62;replace ev2:=hid ev2;replace hb:=hb.trans (hb2.mono hb.size);replace b0:=b0.trans (hb.mono b0.size);replace cr:=cr.below hb;clear hb hb2;go_upto_region 2 with fail;rw[ev2.out];clear ev2;generalize v1.heap.size=gx at*;have RB:=hid (iS b0 (w.heap.size+1+1) (by omega) (.int .u64 h) (.int .u64 l) (.int .i64 0) (.int .i64 0) (.int .i64 fl));have x0:=cr.cell 0 rfl;have x1:=cr.cell 1 rfl;have x2:=cr.cell 2 rfl;have x3:=cr.cell 3 rfl;have x4:=cr.cell 4 rfl;have z0:=cr.frozen 0;have z1:=cr.frozen 1;have z2:=cr.frozen 2;have z3:=cr.frozen 3;have z4:=cr.frozen 4;have y0:=cx.cell 0 rfl;have y1:=cx.cell 1 rfl;have y2:=cx.cell 2 rfl;have y3:=cx.cell 3 rfl;clear b0 cr cx;go_wp2_with fail;exact bodyPost_ret (v:=.agg #[.int .u64 h,.int .u64 l,.int .i64 0,.int .i64 0,.int .i64 fl]) (by simp[results,Tryz.results50,go_sem,x0,x1,x2,x3,x4]) rfl ⟨rfl,RB.out⟩

theorem jP (a m:Nat):a^m<=2^(aB a*m):=by
 rw[Nat.pow_mul];exact Nat.pow_le_pow_left (Nat.le_of_lt (dD a)) m

theorem CS {B j:Nat}(hB:B=2^j)(hj:0<j)(a m K:Nat)(h:aB a*m<j*K):(M.dig B (a^m)).length<=K:=by
 have hB1:1<B:=by rw[hB];exact Nat.one_lt_two_pow (by omega)
 refine M.len_of_lt hB1 _ _ ?_;rw[hB,<-Nat.pow_mul];exact Nat.lt_of_le_of_lt (jP a m) (Nat.pow_lt_pow_right (by omega) h)

theorem jH (a m:Nat)(h:aB a*m<=76800):(L (a^m)).length<=1201:=CS (j:=64) rfl (by omega) a m 1201 (by omega)

theorem iW (a m:Nat)(h:aB a*m<=76800):(D (a^m)).length<=2401:=CS (j:=32) rfl (by omega) a m 2401 (by omega)

theorem tZ {b m e:Nat}(h:m<=e)(hb:b*e<=76800):b*m<=76800:=Nat.le_trans (Nat.mul_le_mul_left _ h) hb

theorem jN:L 1=[1]:=by
 unfold L;rw[M.aV (by omega) (by omega)];simp[M.aH]

theorem tV (e k:Nat):e/2^k=2*(e/2^(k+1))+e/2^k%2:=by
 rw[Nat.pow_succ,<-Nat.div_div_eq_div_mul];omega

theorem xJ (q:Nat)(h:q<4611686018427387904):bits .and .i64 (q:Int) 1=((q%2:Nat):Int):=by
 have:=(bits_nat .i64 62 (by decide) (fun n h1 h2=>by rw[IntKind.wrap_i64];omega) q 1 (by omega) (by omega)).1
 rw[Nat.and_one_is_mod]at this;exact this

theorem vV (x k:Nat):(x:Int)/2^k=((x/2^k:Nat):Int):=by
 have:((2:Int)^k)=((2^k:Nat):Int):=by simp
 rw[this];exact(Int.natCast_ediv x (2^k)).symm

theorem xP (e k:Nat)(he:e<=20000)(b:Nat)(hb:e/2^k%2=b):(bits BinOp.and IntKind.i64 ((e:Int)/2^k) 1==1)=decide (b=1):=by
 have h1:=Nat.div_le_self e (2^k);rw[vV];generalize e/2^k=q at*;rw[xJ _ (by omega)];rw[Bool.eq_iff_iff]
 simp
 omega

theorem gR (a e:Nat)(w:World)(ha:a<18446744073709551616)(he:e<=20000)(hb:aB a*e<=76800):
 Calls Tryz.prog 100 #[.int .u64 (a:Int),.int .i64 (e:Int)] w fun r w'=>Ret w w' r (L (a^e)):=by
 obtain⟨bl,hbl⟩:∃b:Nat,b=aB e:=⟨_,rfl⟩;have hbl2:bl<=15:=by rw[hbl];exact bX e 15 (by omega)
 have hlt0:e<2^bl:=by rw[hbl];exact dD e
 have HBL:=hid hbl;clear hbl;have HLT:=hid hlt0;clear hlt0;have hB1:=mL w [a];have hU1:(U [a]).toArray=#[Value.int .u64 (a:Int)]:=rfl;have hb1:Below w.heap.size w (w.alloc (.cells (U [a]).toArray 25)):=(Below.refl _ _).alloc (Nat.le_refl _) _;rw[hU1]at hB1 hb1;have hf1:F64 [a]:=by intro y hy;simp at hy;omega
 have hv1:V [a]=a:=by simp[V,M.val]
 have HV1:=hid hv1;clear hv1 hU1;have hlfa:=nL [a] hf1;rw[HV1.out]at hlfa;go_enter Tryz.func100,Tryz.ntmps100;go_wp2_with fail;refine(dI _ 1 1 [a] _ rfl (Nat.le_refl _) (by omega) hf1 hB1.rd0).mono ?_;rw[HV1.out];rintro r w1 ⟨rfl,hw1⟩
 have hfac:Rd w1 (some ⟨w.heap.size,0,none⟩) (L a):=by
  rw[hw1];have:=hB1.rd0.trim hf1
  rwa[HV1.out]at this
 have hbw1:Below w.heap.size w w1:=by rw[hw1];exact hb1
 clear hw1 hB1 hb1;have hB2:=mL w1 [1];have hU2:(U [1]).toArray=#[Value.int .u64 1]:=rfl;have hb2:Below w1.heap.size w1 (w1.alloc (.cells (U [1]).toArray 25)):=(Below.refl _ _).alloc (Nat.le_refl _) _;rw[hU2]at hB2 hb2;have hb2w:=hbw1.trans (hb2.mono hbw1.size);have ho2:=hB2.own (base:=w.heap.size) (n:=1) hbw1.size rfl (by unfold maxLen;omega);have hfac2:=hfac.below hb2;clear hU2;go_wp2_with fail;refine(MN e _ (by omega) bl HBL.out).mono ?_;rintro r w3 ⟨rfl,hw3⟩;rw[<-hw3]at hb2w ho2 hfac2;clear hw3 hb2 hB2 hfac;have Hw:=hid hb2w;have Ho:=hid ho2;have Hf:=hid hfac2;clear hb2w ho2 hfac2;go_wp2_with fail
 go_loopw [6,7] (fun v i wr=>∃(k P:Nat)(pa:Option Addr)(pc:Nat),k<=bl/\i=.int .i64 ((k:Int)-1)/\P=a^(e/2^k)/\v=.slice pa (L P).length pc/\wr.ownsRow w.heap.size 25 1 (.slice pa (L P).length pc) (L P).length (U (L P))/\Rd wr (some ⟨w.heap.size,0,none⟩) (L a)/\Below w.heap.size w wr) (fun _ i _=>(intOf i+1).toNat)
 case atStart=>
  refine⟨bl,1,some ⟨w1.heap.size,0,none⟩,1,Nat.le_refl _,by go_num,?_,?_,?_,Hf.out,Hw.out⟩
  . rw[Nat.div_eq_of_lt HLT.out];simp
  . rw[jN];rfl
  . rw[jN];exact Ho.out
 case round=>
  obtain⟨k,P,pa,pc,hk,rfl,hP,rfl,hown,hfa,hbl⟩:=hrel;have HP:=hid hP;clear hP;clear Hw Ho Hf
  by_cases hk0:0<k
  . obtain⟨k,rfl⟩:∃k',k=k'+1:=⟨k-1,by omega⟩;have e1:(((k+1:Nat):Int)-1)=(k:Int):=by omega
    rw[e1]
    have hm1:2*(e/2^(k+1))<=e:=by
     have h1:=tV e k;have h2:=Nat.div_le_self e (2^k);omega
    have hPl:(L P).length<=1201:=by rw[HP.out];exact jH a _ (tZ (by omega) hb)
    have hPPl:(L (P*P)).length<=1201:=by
     rw[HP.out,<-Nat.pow_add];exact jH a _ (tZ (by omega) hb)
    go_wp2_with fail;refine(mF pa pa _ _ pc pc P P _ rfl rfl (by omega) (by omega) (Rd.own hown) (Rd.own hown)).mono ?_;rintro r w4 ⟨p2,c2,rfl,ho4,hb4⟩;have hbw4:=hbl.trans (hb4.mono hbl.size);have how4:=aM ho4 hbl.size;have hfa4:=hfa.below hb4;clear ho4 hb4 hown hfa hbl;have hbit:=tV e k
    by_cases hb1:e/2^k%2=1
    . have htest:=xP e k he 1 hb1;rw[decide_eq_true (by rfl)]at htest
      have hP2:P*P*a=a^(e/2^k):=by
       rw[hbit,hb1,Nat.pow_succ,Nat.two_mul,Nat.pow_add,<-HP.out]
      have HP2:=hid hP2;clear hP2 hbit hb1;go_wp2_with fail;refine(mF p2 _ _ _ c2 1 (P*P) a _ rfl rfl (by omega) (by simp at hlfa;omega) (Rd.own how4) hfa4).mono ?_;rintro r w5 ⟨p3,c3,rfl,ho5,hb5⟩;have hbw5:=hbw4.trans (hb5.mono hbw4.size);have how5:=aM ho5 hbw4.size;have hfa5:=hfa4.below hb5;clear ho5 hb5 how4 hfa4;go_wp2_with fail;go_roundw
      case rel=>
       have R:∃(k1 P1:Nat)(pa1:Option Addr)(pc1:Nat),k1<=bl/\Value.int .i64 ((k:Int)-1)=.int .i64 ((k1:Int)-1)/\P1=a^(e/2^k1)/\Value.slice p3 (L (P*P*a)).length c3=.slice pa1 (L P1).length pc1/\w5.ownsRow w.heap.size 25 1 (.slice pa1 (L P1).length pc1) (L P1).length (U (L P1))/\Rd w5 (some ⟨w.heap.size,0,none⟩) (L a)/\Below w.heap.size w w5:=
        ⟨k,P*P*a,p3,c3,by omega,rfl,HP2.out,rfl,how5,hfa5,hbw5⟩
       first|exact R|((repeat apply Exists.intro);exact⟨R,rfl⟩)
      case measure=>simp[intOf]
    . have hb0:e/2^k%2=0:=by omega
      have htest:=xP e k he 0 hb0;rw[decide_eq_false (by omega)]at htest
      have hP2:P*P=a^(e/2^k):=by
       rw[hbit,hb0,Nat.add_zero,Nat.two_mul,Nat.pow_add,<-HP.out]
      have HP2:=hid hP2;clear hP2 hbit hb1 hb0;go_wp2_with fail;go_roundw
      case rel=>
       have R:∃(k1 P1:Nat)(pa1:Option Addr)(pc1:Nat),k1<=bl/\Value.int .i64 ((k:Int)-1)=.int .i64 ((k1:Int)-1)/\P1=a^(e/2^k1)/\Value.slice p2 (L (P*P)).length c2=.slice pa1 (L P1).length pc1/\w4.ownsRow w.heap.size 25 1 (.slice pa1 (L P1).length pc1) (L P1).length (U (L P1))/\Rd w4 (some ⟨w.heap.size,0,none⟩) (L a)/\Below w.heap.size w w4:=
        ⟨k,P*P,p2,c2,by omega,rfl,HP2.out,rfl,how4,hfa4,hbw4⟩
       first|exact R|((repeat apply Exists.intro);exact⟨R,rfl⟩)
      case measure=>simp[intOf]
  . have:k=0:=by omega
    subst this;have hPe:P=a^e:=by rw[HP.out];simp
    clear HP;have HPe:=hid hPe;clear hPe;go_wp2_with fail;go_ret;rw[<-HPe.out];exact⟨pa,pc,rfl,hown,hbl⟩

def RR (w w':World)(e:Ending)(N De:Nat):Prop:=∃a c b d,e=.returned (.agg #[.slice a (L N).length c,.slice b (L De).length d])/\Rd w' a (L N)/\Rd w' b (L De)/\Below w.heap.size w w'

theorem vP:aB 10=4:=by decide

theorem gN (m:Nat)(h:m<=19000):aB 10*m<=76800:=by rw[vP];omega

theorem uN {w:World}{base n cap g:Nat}{ao:Option Addr}{xs:List Value}(h:w.ownsRow base 25 1 (.slice ao n cap) n xs)(hg:g<base):(Value.slice ao n cap).ownBlock≠some g:=by
 rcases h.2 with⟨he,h0⟩|⟨k,cap',cur,he,hk,_⟩
 . simp only[Value.slice.injEq]at he;obtain⟨rfl,_,rfl⟩:=he
   simp[Value.ownBlock]
 . simp only[Value.slice.injEq]at he;obtain⟨rfl,_,rfl⟩:=he
   simp[Value.ownBlock];omega

theorem gC {w:World}{base n cap g:Nat}{ao:Option Addr}{xs:List Nat}(h:w.ownsRow base 25 1 (.slice ao n cap) n (U xs))(hg:g<base)(u v:Value):Rd ((w.setCell ⟨g,0,none⟩ u).setCell ⟨g,1,none⟩ v) ao xs:=
 Rd.own (ownsRow_setCell_other (ownsRow_setCell_other h (uN h hg) u) (uN h hg) v)

theorem nP (m:Nat)(w:World)(hm:m<=19000):
 Calls Tryz.prog 52 #[.int .i64 (m:Int)] w fun e w'=>RR w w' e (10^m) (1):=by
 have k1:=fun v:World=>gR 10 m v (by omega) (by omega) (gN m (by omega))
 have k2:=fun v:World=>gR 10 0 v (by omega) (by omega) (gN 0 (by omega))
 have hz:max (m:Int) 0=(m:Int):=by omega
 have hz2:max (-(m:Int)) 0=(0:Int):=by omega
 have b0:=(Below.refl w.heap.size w).alloc (Nat.le_refl _) (.cells #[.slice none 0 0,.slice none 0 0] 90);obtain⟨c0,c1,z0,z1⟩:=iQ w 90 (.slice none 0 0) (.slice none 0 0);have l0:w.heap.size<(w.alloc (.cells #[.slice none 0 0,.slice none 0 0] 90)).heap.size:=by simp
 go_enter Tryz.func52,Tryz.ntmps52;go_wp2_with fail;refine(k1 _).mono ?_;rintro e v1 ⟨a,c,rfl,ho1,hb1⟩;have b1:=b0.trans (hb1.mono b0.size);go_wp2_with fail;refine(k2 _).mono ?_;rintro e v2 ⟨b,d,rfl,ho2,hb2⟩;have hb3:=hb1.trans (hb2.mono hb1.size);have b2:=b1.trans (hb2.mono b1.size);have c0':v2.cell? ⟨w.heap.size,0,none⟩=some (.slice none 0 0):=(hb3.cell l0).trans c0;have c1':v2.cell? ⟨w.heap.size,1,none⟩=some (.slice none 0 0):=(hb3.cell l0).trans c1;have z0':v2.frozen? ⟨w.heap.size,0,none⟩=false:=(hb3.frozen l0).trans z0;have z1':v2.frozen? ⟨w.heap.size,1,none⟩=false:=(hb3.frozen l0).trans z1;have hl:w.heap.size<v1.heap.size:=Nat.lt_of_lt_of_le l0 hb1.size;have q1:=gC (cH ho1 hb2) l0;have q2:=gC ho2 hl;clear ho1 ho2 c0 c1 z0 z1 hb2 hb1 hb3 b1 b0 l0 hl;go_wp2_with fail;exact bodyPost_ret (v:=.agg #[.slice a (L (10^m)).length c,.slice b (L (1)).length d]) (by simp[results,Tryz.results52,go_sem,c0',c1']) rfl ⟨a,c,b,d,rfl,q1 _ _,q2 _ _,(b2.setCell (p:=⟨w.heap.size,0,none⟩) (Nat.le_refl _) _).setCell (p:=⟨w.heap.size,1,none⟩) (Nat.le_refl _) _⟩

theorem nV (m:Nat)(w:World)(hm:m<=19000):
 Calls Tryz.prog 52 #[.int .i64 (-(m:Int))] w fun e w'=>RR w w' e (1) (10^m):=by
 have k1:=fun v:World=>gR 10 0 v (by omega) (by omega) (gN 0 (by omega))
 have k2:=fun v:World=>gR 10 m v (by omega) (by omega) (gN m (by omega))
 have hz:max (-(m:Int)) 0=(0:Int):=by omega
 have hz2:max (-(-(m:Int))) 0=(m:Int):=by omega
 have b0:=(Below.refl w.heap.size w).alloc (Nat.le_refl _) (.cells #[.slice none 0 0,.slice none 0 0] 90);obtain⟨c0,c1,z0,z1⟩:=iQ w 90 (.slice none 0 0) (.slice none 0 0);have l0:w.heap.size<(w.alloc (.cells #[.slice none 0 0,.slice none 0 0] 90)).heap.size:=by simp
 go_enter Tryz.func52,Tryz.ntmps52;go_wp2_with fail;refine(k1 _).mono ?_;rintro e v1 ⟨a,c,rfl,ho1,hb1⟩;have b1:=b0.trans (hb1.mono b0.size);go_wp2_with fail;refine(k2 _).mono ?_;rintro e v2 ⟨b,d,rfl,ho2,hb2⟩;have hb3:=hb1.trans (hb2.mono hb1.size);have b2:=b1.trans (hb2.mono b1.size);have c0':v2.cell? ⟨w.heap.size,0,none⟩=some (.slice none 0 0):=(hb3.cell l0).trans c0;have c1':v2.cell? ⟨w.heap.size,1,none⟩=some (.slice none 0 0):=(hb3.cell l0).trans c1;have z0':v2.frozen? ⟨w.heap.size,0,none⟩=false:=(hb3.frozen l0).trans z0;have z1':v2.frozen? ⟨w.heap.size,1,none⟩=false:=(hb3.frozen l0).trans z1;have hl:w.heap.size<v1.heap.size:=Nat.lt_of_lt_of_le l0 hb1.size;have q1:=gC (cH ho1 hb2) l0;have q2:=gC ho2 hl;clear ho1 ho2 c0 c1 z0 z1 hb2 hb1 hb3 b1 b0 l0 hl;go_wp2_with fail;exact bodyPost_ret (v:=.agg #[.slice a (L (1)).length c,.slice b (L (10^m)).length d]) (by simp[results,Tryz.results52,go_sem,c0',c1']) rfl ⟨a,c,b,d,rfl,q1 _ _,q2 _ _,(b2.setCell (p:=⟨w.heap.size,0,none⟩) (Nat.le_refl _) _).setCell (p:=⟨w.heap.size,1,none⟩) (Nat.le_refl _) _⟩

theorem qH (v:World)(x y:Value){g b o:Nat}(h:b≠g):((v.setCell ⟨g,0,none⟩ x).setCell ⟨g,1,none⟩ y).cell? ⟨b,o,none⟩=v.cell? ⟨b,o,none⟩:=
 World.cell?_of_block (w:=v) (a:=⟨b,o,none⟩) ((Below.heap_setCell _ _ _ _ h).trans (Below.heap_setCell _ _ _ _ h))

end Go.Proofs.YtfdgkleoaehjaaaGreatDoor
