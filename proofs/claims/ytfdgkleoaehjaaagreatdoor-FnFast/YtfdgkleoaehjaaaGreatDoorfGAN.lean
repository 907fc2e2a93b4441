import Derived.Test.YtfdgkleoaehjaaaGreatDoorfGAM
set_option maxHeartbeats 4000000
set_option maxRecDepth 10000
namespace Go.Proofs.YtfdgkleoaehjaaaGreatDoor
open Go.RowKit
set_option linter.unusedVariables false
set_option maxRecDepth 100000

theorem FI (a b a' b':Option Addr)(c d n m c' d' n' m' N De N' De':Nat)(w:World)(hl:(L N).length=n)(hm:(L De).length=m)(hl':(L N').length=n')(hm':(L De').length=m')(hn:n<=1048576)(hn2:m<=1048576)(hn':n'<=1048576)(hn2':m'<=1048576)
 (ra:Rd w a (L N))(rb:Rd w b (L De))(ra':Rd w a' (L N'))(rb':Rd w b' (L De')):
 Calls Tryz.prog 51 #[.agg #[.slice a n c,.slice b m d],.agg #[.slice a' n' c',.slice b' m' d']] w fun e w'=>RR w w' e (N*N') (De*De'):=by
 go_enter Tryz.func51,Tryz.ntmps51;go_wp2_with fail;have b1:Below w.heap.size w (((w.alloc (.cells #[.slice a n c,.slice b m d] 90)).alloc (.cells #[.slice a' n' c',.slice b' m' d'] 90)).alloc (.cells #[.slice none 0 0,.slice none 0 0] 90)):=(((Below.refl _ _).alloc (Nat.le_refl _) _).alloc (by simp) _).alloc (by simp;omega) _;generalize hw1:(((w.alloc (.cells #[.slice a n c,.slice b m d] 90)).alloc (.cells #[.slice a' n' c',.slice b' m' d'] 90)).alloc (.cells #[.slice none 0 0,.slice none 0 0] 90))=w1 at*;have c0:w1.cell? ⟨w.heap.size,0,none⟩=some (.slice a n c):=by rw[<-hw1];simp[go_sem]
 have c1:w1.cell? ⟨w.heap.size,1,none⟩=some (.slice b m d):=by rw[<-hw1];simp[go_sem]
 have c2:w1.cell? ⟨w.heap.size+1,0,none⟩=some (.slice a' n' c'):=by rw[<-hw1];simp[go_sem]
 have c3:w1.cell? ⟨w.heap.size+1,1,none⟩=some (.slice b' m' d'):=by rw[<-hw1];simp[go_sem]
 have r0:w1.cell? ⟨w.heap.size+1+1,0,none⟩=some (.slice none 0 0):=by rw[<-hw1];simp[go_sem]
 have r1:w1.cell? ⟨w.heap.size+1+1,1,none⟩=some (.slice none 0 0):=by rw[<-hw1];simp[go_sem]
 have z0:w1.frozen? ⟨w.heap.size+1+1,0,none⟩=false:=by rw[<-hw1];simp[go_sem]
 have z1:w1.frozen? ⟨w.heap.size+1+1,1,none⟩=false:=by rw[<-hw1];simp[go_sem]
 have n1:w.heap.size+3<=w1.heap.size:=by rw[<-hw1];simp
 clear hw1
 have k1:∀v,Below w1.heap.size w1 v->Calls Tryz.prog 99 #[.slice a n c,.slice a' n' c'] v fun e v'=>∃a1 c1,e=.returned (.slice a1 (L (N*N')).length c1)/\v'.ownsRow w1.heap.size 25 1 (.slice a1 (L (N*N')).length c1) (L (N*N')).length (U (L (N*N')))/\Below w1.heap.size w1 v':=fun v hv=>(mF a a' n n' c c' N N' v hl hl' hn hn' ((ra.below b1).below hv) ((ra'.below b1).below hv)).mono fun e v' ⟨a1,c1,he,ho,hb⟩=>⟨a1,c1,he,aM ho hv.size,aL hv hb⟩
 have k2:∀v a1 c1,Below w1.heap.size w1 v->v.ownsRow w1.heap.size 25 1 (.slice a1 (L (N*N')).length c1) (L (N*N')).length (U (L (N*N')))->Calls Tryz.prog 99 #[.slice b m d,.slice b' m' d'] v fun e v'=>∃a2 c2,e=.returned (.slice a2 (L (De*De')).length c2)/\(∀x y,Rd ((v'.setCell ⟨w.heap.size+1+1,0,none⟩ x).setCell ⟨w.heap.size+1+1,1,none⟩ y) a1 (L (N*N'))/\Rd ((v'.setCell ⟨w.heap.size+1+1,0,none⟩ x).setCell ⟨w.heap.size+1+1,1,none⟩ y) a2 (L (De*De')))/\v'.cell? ⟨w.heap.size+1+1,0,none⟩=some (.slice none 0 0)/\v'.cell? ⟨w.heap.size+1+1,1,none⟩=some (.slice none 0 0)/\v'.frozen? ⟨w.heap.size+1+1,0,none⟩=false/\v'.frozen? ⟨w.heap.size+1+1,1,none⟩=false/\Below w1.heap.size w1 v':=fun v a1 c1 hv ho1=>(mF b b' m m' d d' De De' v hm hm' hn2 hn2' ((rb.below b1).below hv) ((rb'.below b1).below hv)).mono fun e v' ⟨a2,c2,he,ho,hb⟩=>⟨a2,c2,he,fun x y=>⟨gC (cH ho1 hb) (by omega) x y,gC ho (by have:=hv.size;omega) x y⟩,((aL hv hb).cell (by simp only;omega)).trans r0,((aL hv hb).cell (by simp only;omega)).trans r1,((aL hv hb).frozen (by simp only;omega)).trans z0,((aL hv hb).frozen (by simp only;omega)).trans z1,aL hv hb⟩
 have D1:∀v,Below w1.heap.size w1 v->(fun v=>v.cell? ⟨w.heap.size,0,none⟩=some (.slice a n c)/\v.cell? ⟨w.heap.size,1,none⟩=some (.slice b m d)/\v.cell? ⟨w.heap.size+1,0,none⟩=some (.slice a' n' c')/\v.cell? ⟨w.heap.size+1,1,none⟩=some (.slice b' m' d')) v:=fun v hv=>⟨(hv.cell (by simp only;omega)).trans c0,(hv.cell (by simp only;omega)).trans c1,(hv.cell (by simp only;omega)).trans c2,(hv.cell (by simp only;omega)).trans c3⟩
 have D2:∀v x y,Below w1.heap.size w1 v->(fun v=>v.cell? ⟨w.heap.size,0,none⟩=some (.slice a n c)/\v.cell? ⟨w.heap.size,1,none⟩=some (.slice b m d)/\v.cell? ⟨w.heap.size+1,0,none⟩=some (.slice a' n' c')/\v.cell? ⟨w.heap.size+1,1,none⟩=some (.slice b' m' d')) ((v.setCell ⟨w.heap.size+1+1,0,none⟩ x).setCell ⟨w.heap.size+1+1,1,none⟩ y):=fun v x y hv=>⟨((qH v x y (by omega)).trans (hv.cell (by simp only;omega))).trans c0,((qH v x y (by omega)).trans (hv.cell (by simp only;omega))).trans c1,((qH v x y (by omega)).trans (hv.cell (by simp only;omega))).trans c2,((qH v x y (by omega)).trans (hv.cell (by simp only;omega))).trans c3⟩
 clear c0 c1 c2 c3 r0 r1 z0 z1 ra rb ra' rb' hl hm hl' hm'
 go_region_held3 (fun v=>v.cell? ⟨w.heap.size,0,none⟩=some (.slice a n c)/\v.cell? ⟨w.heap.size,1,none⟩=some (.slice b m d)/\v.cell? ⟨w.heap.size+1,0,none⟩=some (.slice a' n' c')/\v.cell? ⟨w.heap.size+1,1,none⟩=some (.slice b' m' d')) (first|exact D1 _ (by assumption)|exact D1 _ ((Below.refl _ _).drew)|exact D2 _ _ _ (by assumption))
  (first|(have hq:=hb1;go_at_call 99;refine(k2 _ _ _ hq ho1).mono ?_;rintro e w' ⟨ao2,ca2,rfl,hRd,f0,f1,f2,f3,hb2⟩;clear hb1 hq ho1)|(go_at_call 99;refine(k1 _ (Below.refl _ _).drew).mono ?_;rintro e w' ⟨ao1,ca1,rfl,ho1,hb1⟩))
 all_goals go_wp2_with fail
 all_goals exact bodyPost_ret (v:=.agg #[.slice ao1 (L (N*N')).length ca1,.slice ao2 (L (De*De')).length ca2]) (by simp[results,Tryz.results51,go_sem,f0,f1]) rfl ⟨ao1,ca1,ao2,ca2,rfl,(hRd _ _).1,(hRd _ _).2,((b1.trans (hb2.mono b1.size)).setCell (by simp only;omega) _).setCell (by simp only;omega) _⟩

theorem BT (F:M.Fm)(kd:Int)(ng:Bool)(a:Option Addr)(dl cc:Nat)(ex E:Int)(h l cd off fl:Int)(w:World)(D P Q:Nat)(hE:E=max (min ex 5200) (-5200-(dl:Int)))(hdl:dl<=10000)(lD:(L D).length<=1048576)(lP:(L P).length<=1048576)(lQ:(L Q).length<=1048576)
 (kN:∀v:World,Below w.heap.size w v->Calls Tryz.prog 49 #[.slice a dl cc] v fun e w'=>Ret v w' e (L D))
 (kT:∀v:World,Calls Tryz.prog 52 #[.int .i64 E] v fun e w'=>RR v w' e P Q)
 (kP:∀(v:World)(a1 b1:Option Addr)(c1 d1:Nat),Rd v a1 (L (D*P))->Rd v b1 (L Q)->Calls Tryz.prog 50 #[dv F,.bool ng,.agg #[.slice a1 (L (D*P)).length c1,.slice b1 (L Q).length d1]] v fun e w'=>e=.returned (.agg #[.int .u64 h,.int .u64 l,.int .i64 cd,.int .i64 off,.int .i64 fl])/\Below v.heap.size v w'):
 Calls Tryz.prog 18 #[.agg #[.int .i64 kd,.bool ng,.slice a dl cc,.int .i64 ex],dv F] w fun e w'=>e=.returned (.agg #[.int .u64 h,.int .u64 l,.int .i64 cd,.int .i64 off,.int .i64 fl])/\Below w.heap.size w w':=by
 simp only[dv]at kP|-;have HE:=hid hE;clear hE;obtain⟨cx,cd',cr,b0⟩:=Cls.new3 w #[.int .i64 kd,.bool ng,.slice a dl cc,.int .i64 ex] #[.int .i64 (F.p:Int),.int .i64 (1-(F.emax:Int)),.int .i64 (F.emax:Int),.int .i64 (F.wd:Int),.int .i64 (F.e:Int),.bool F.x] dS 32 37 29;go_enter Tryz.func18,Tryz.ntmps18;go_wp2_with fail;rw[<-HE.out];refine(kN _ b0).mono ?_;rintro e v1 ⟨a1,c1,rfl,ho,hb⟩;replace b0:=b0.trans (hb.mono b0.size);replace cx:=cx.below hb;replace cd':=cd'.below hb;replace cr:=cr.below hb;have rA:=Rd.own ho;clear ho hb;go_upto_region 4 with fail;obtain⟨co,cv,hb⟩:=Cls.new2 v1 #[.int .u64 1] #[.slice a1 (L D).length c1,.slice (some ⟨v1.heap.size,0,none⟩) 1 1] 25 90;have lgv:w.heap.size+1+1<v1.heap.size:=cr.lt;replace b0:=b0.trans (hb.mono b0.size);replace cx:=cx.below hb;replace cd':=cd'.below hb;replace cr:=cr.below hb;replace rA:=rA.below hb;clear hb;generalize((v1.alloc (.cells #[.int .u64 1] 25)).alloc (.cells #[.slice a1 (L D).length c1,.slice (some ⟨v1.heap.size,0,none⟩) 1 1] 90))=v2 at*;generalize v1.heap.size=gv at*
 have rO:Rd v2 (some ⟨gv,0,none⟩) (L 1):=by
  rw[jN];intro _
  refine⟨gv,0,rfl,fun i hi=>?_⟩
  have hi':i=0:=by simp at hi;omega
  subst hi';exact co.cell 0 rfl
 have lO:(L 1).length=1:=by rw[jN];rfl
 have D1:∀v,Below v2.heap.size v2 v->(fun v:World=>v.cell? ⟨w.heap.size,1,none⟩=some (.bool ng)/\v.cell? ⟨w.heap.size+1,0,none⟩=some (.int .i64 (F.p:Int))/\v.cell? ⟨w.heap.size+1,1,none⟩=some (.int .i64 (1-(F.emax:Int)))/\v.cell? ⟨w.heap.size+1,2,none⟩=some (.int .i64 (F.emax:Int))/\v.cell? ⟨w.heap.size+1,3,none⟩=some (.int .i64 (F.wd:Int))/\v.cell? ⟨w.heap.size+1,4,none⟩=some (.int .i64 (F.e:Int))/\v.cell? ⟨w.heap.size+1,5,none⟩=some (.bool F.x)/\v.cell? ⟨gv+1,0,none⟩=some (.slice a1 (L D).length c1)/\v.cell? ⟨gv+1,1,none⟩=some (.slice (some ⟨gv,0,none⟩) 1 1)) v:=fun v hv=>⟨(cx.below hv).cell 1 rfl,(cd'.below hv).cell 0 rfl,(cd'.below hv).cell 1 rfl,(cd'.below hv).cell 2 rfl,(cd'.below hv).cell 3 rfl,(cd'.below hv).cell 4 rfl,(cd'.below hv).cell 5 rfl,(cv.below hv).cell 0 rfl,(cv.below hv).cell 1 rfl⟩
 have K3:∀(v:World) u4 u5 u6 u7 u8,(fun v:World=>v.cell? ⟨w.heap.size,1,none⟩=some (.bool ng)/\v.cell? ⟨w.heap.size+1,0,none⟩=some (.int .i64 (F.p:Int))/\v.cell? ⟨w.heap.size+1,1,none⟩=some (.int .i64 (1-(F.emax:Int)))/\v.cell? ⟨w.heap.size+1,2,none⟩=some (.int .i64 (F.emax:Int))/\v.cell? ⟨w.heap.size+1,3,none⟩=some (.int .i64 (F.wd:Int))/\v.cell? ⟨w.heap.size+1,4,none⟩=some (.int .i64 (F.e:Int))/\v.cell? ⟨w.heap.size+1,5,none⟩=some (.bool F.x)/\v.cell? ⟨gv+1,0,none⟩=some (.slice a1 (L D).length c1)/\v.cell? ⟨gv+1,1,none⟩=some (.slice (some ⟨gv,0,none⟩) 1 1)) v->(fun v:World=>v.cell? ⟨w.heap.size,1,none⟩=some (.bool ng)/\v.cell? ⟨w.heap.size+1,0,none⟩=some (.int .i64 (F.p:Int))/\v.cell? ⟨w.heap.size+1,1,none⟩=some (.int .i64 (1-(F.emax:Int)))/\v.cell? ⟨w.heap.size+1,2,none⟩=some (.int .i64 (F.emax:Int))/\v.cell? ⟨w.heap.size+1,3,none⟩=some (.int .i64 (F.wd:Int))/\v.cell? ⟨w.heap.size+1,4,none⟩=some (.int .i64 (F.e:Int))/\v.cell? ⟨w.heap.size+1,5,none⟩=some (.bool F.x)/\v.cell? ⟨gv+1,0,none⟩=some (.slice a1 (L D).length c1)/\v.cell? ⟨gv+1,1,none⟩=some (.slice (some ⟨gv,0,none⟩) 1 1)) (((((v.setCell ⟨w.heap.size+1+1,0,none⟩ u4).setCell ⟨w.heap.size+1+1,1,none⟩ u5).setCell ⟨w.heap.size+1+1,2,none⟩ u6).setCell ⟨w.heap.size+1+1,3,none⟩ u7).setCell ⟨w.heap.size+1+1,4,none⟩ u8):=fun v u4 u5 u6 u7 u8 h=>⟨(cF (by omega)).trans h.1,(cF (by omega)).trans h.2.1,(cF (by omega)).trans h.2.2.1,(cF (by omega)).trans h.2.2.2.1,(cF (by omega)).trans h.2.2.2.2.1,(cF (by omega)).trans h.2.2.2.2.2.1,(cF (by omega)).trans h.2.2.2.2.2.2.1,(cF (by omega)).trans h.2.2.2.2.2.2.2.1,(cF (by omega)).trans h.2.2.2.2.2.2.2.2⟩
 have hdr:Below v2.heap.size v2 v2.drew:=(Below.refl _ _).drew
 go_region_held3 (fun v:World=>v.cell? ⟨w.heap.size,1,none⟩=some (.bool ng)/\v.cell? ⟨w.heap.size+1,0,none⟩=some (.int .i64 (F.p:Int))/\v.cell? ⟨w.heap.size+1,1,none⟩=some (.int .i64 (1-(F.emax:Int)))/\v.cell? ⟨w.heap.size+1,2,none⟩=some (.int .i64 (F.emax:Int))/\v.cell? ⟨w.heap.size+1,3,none⟩=some (.int .i64 (F.wd:Int))/\v.cell? ⟨w.heap.size+1,4,none⟩=some (.int .i64 (F.e:Int))/\v.cell? ⟨w.heap.size+1,5,none⟩=some (.bool F.x)/\v.cell? ⟨gv+1,0,none⟩=some (.slice a1 (L D).length c1)/\v.cell? ⟨gv+1,1,none⟩=some (.slice (some ⟨gv,0,none⟩) 1 1)) (first|(with_reducible exact D1 _ (by assumption))|(with_reducible exact K3 _ _ _ _ _ _ (D1 _ (by assumption))))
  (first
    |(go_at_call 52;refine(kT _).mono ?_;rintro e t1 ⟨ta,tc,tb,td,rfl,rT,rQ,hbt'⟩;have hb1:=hdr.trans (hbt'.mono (Nat.le_refl _));clear hbt')
    |(go_at_call 51;refine(FI a1 (some ⟨gv,0,none⟩) ta tb c1 1 (L D).length 1 tc td (L P).length (L Q).length D 1 P Q _ rfl lO rfl rfl lD (by omega) lP lQ (rA.below hb1) (rO.below hb1) rT rQ).mono ?_;rintro e t2 ⟨ma,mc,mb,md,he,rM,rN,hbt'⟩;rw[Nat.one_mul]at he rN;subst he;have hb2:=hb1.trans (hbt'.mono hb1.size);clear hbt' hb1)
    |(go_at_call 50;refine(kP _ _ _ _ _ rM rN).mono ?_;rintro e t3 ⟨rfl,hbt'⟩;have hb3:=hb2.trans (hbt'.mono hb2.size);clear hbt' hb2;have r3:=cr.below hb3;have x0:=r3.cell 0 rfl;have x1:=r3.cell 1 rfl;have x2:=r3.cell 2 rfl;have x3:=r3.cell 3 rfl;have x4:=r3.cell 4 rfl;have z0:=r3.frozen 0;have z1:=r3.frozen 1;have z2:=r3.frozen 2;have z3:=r3.frozen 3;have z4:=r3.frozen 4))
 all_goals go_wp2_with fail
 all_goals exact bodyPost_ret (v:=.agg #[.int .u64 h,.int .u64 l,.int .i64 cd,.int .i64 off,.int .i64 fl]) (by simp[results,Tryz.results18,go_sem,x0,x1,x2,x3,x4]) rfl ⟨rfl,iS (b0.trans (hb3.mono b0.size)) _ (by omega) _ _ _ _ _⟩

theorem GF (f:Int)(ao:Option Addr)(n c:Nat)(w:World)(hm:Fmt w)(F:M.Fm)(kd:Int)(ng:Bool)(dl:Nat)(ex h l cd off fl:Int)(OK:World->Option Addr->Nat->Prop)(okB:∀v v' a k,OK v a k->Below v.heap.size v v'->OK v' a k)
 (kS:∀v:World,Below w.heap.size w v->Calls Tryz.prog 17 #[.int .i64 f,.slice ao n c] v fun e w'=>∃a cc,e=.returned (.tuple #[.agg #[.int .i64 kd,.bool ng,.slice a dl cc,.int .i64 ex],.agg #[.int .u64 0,.int .u64 0,.int .i64 0,.int .i64 0,.int .i64 0],.bool false])/\OK w' a cc/\Below v.heap.size v w')
 (kE:∀v:World,Fmt v->Calls Tryz.prog 19 #[.int .i64 f] v fun e w'=>e=.returned (dv F)/\Below v.heap.size v w')
 (kR:∀(v:World) a cc,OK v a cc->Calls Tryz.prog 18 #[.agg #[.int .i64 kd,.bool ng,.slice a dl cc,.int .i64 ex],dv F] v fun e w'=>e=.returned (.agg #[.int .u64 h,.int .u64 l,.int .i64 cd,.int .i64 off,.int .i64 fl])/\Below v.heap.size v w'):
 Calls Tryz.prog 6 #[.int .i64 f,.slice ao n c] w fun e w'=>e=.returned (.agg #[.int .u64 h,.int .u64 l,.int .i64 cd,.int .i64 off,.int .i64 fl])/\Below w.heap.size w w':=by
 simp only[dv]at kE kR;have b0:Below w.heap.size w (w.alloc (.cells dS 29)):=(Below.refl _ _).alloc (Nat.le_refl _) _;have c0:Cls (w.alloc (.cells dS 29)) w.heap.size dS 29:=Cls.new _ _ _;go_enter Tryz.func6,Tryz.ntmps6;go_wp2_with fail;refine(kS _ b0).mono ?_;rintro e v1 ⟨a,cc,rfl,ho,hb⟩;obtain⟨cx,cp,hb2⟩:=Cls.new2 v1 #[.int .i64 kd,.bool ng,.slice a dl cc,.int .i64 ex] #[.int .u64 0,.int .u64 0,.int .i64 0,.int .i64 0,.int .i64 0] 32 29;have lg:w.heap.size<v1.heap.size:=(c0.below hb).lt;replace ho:=okB _ _ _ _ ho hb2;replace hb:=hb.trans (hb2.mono hb.size);replace b0:=b0.trans (hb.mono b0.size);replace c0:=c0.below hb;clear hb hb2 cp;go_upto_region 2 with fail;generalize((v1.alloc (.cells #[.int .i64 kd,.bool ng,.slice a dl cc,.int .i64 ex] 32)).alloc (.cells #[.int .u64 0,.int .u64 0,.int .i64 0,.int .i64 0,.int .i64 0] 29))=v2 at*;generalize v1.heap.size=gx at*;go_wp2_with fail
 have D1:∀v,Below v2.heap.size v2 v->(fun v:World=>v.cell? ⟨gx,0,none⟩=some (.int .i64 kd)/\v.cell? ⟨gx,1,none⟩=some (.bool ng)/\v.cell? ⟨gx,2,none⟩=some (.slice a dl cc)/\v.cell? ⟨gx,3,none⟩=some (.int .i64 ex)) v:=fun v hv=>⟨(cx.below hv).cell 0 rfl,(cx.below hv).cell 1 rfl,(cx.below hv).cell 2 rfl,(cx.below hv).cell 3 rfl⟩
 have K3:∀(v:World) u4 u5 u6 u7 u8,(fun v:World=>v.cell? ⟨gx,0,none⟩=some (.int .i64 kd)/\v.cell? ⟨gx,1,none⟩=some (.bool ng)/\v.cell? ⟨gx,2,none⟩=some (.slice a dl cc)/\v.cell? ⟨gx,3,none⟩=some (.int .i64 ex)) v->(fun v:World=>v.cell? ⟨gx,0,none⟩=some (.int .i64 kd)/\v.cell? ⟨gx,1,none⟩=some (.bool ng)/\v.cell? ⟨gx,2,none⟩=some (.slice a dl cc)/\v.cell? ⟨gx,3,none⟩=some (.int .i64 ex)) (((((v.setCell ⟨w.heap.size,0,none⟩ u4).setCell ⟨w.heap.size,1,none⟩ u5).setCell ⟨w.heap.size,2,none⟩ u6).setCell ⟨w.heap.size,3,none⟩ u7).setCell ⟨w.heap.size,4,none⟩ u8):=fun v u4 u5 u6 u7 u8 h=>⟨(cF (by omega)).trans h.1,(cF (by omega)).trans h.2.1,(cF (by omega)).trans h.2.2.1,(cF (by omega)).trans h.2.2.2⟩
 have hdr:Below v2.heap.size v2 v2.drew:=(Below.refl _ _).drew;have m0:=hm.below b0
 go_region_held3 (fun v:World=>v.cell? ⟨gx,0,none⟩=some (.int .i64 kd)/\v.cell? ⟨gx,1,none⟩=some (.bool ng)/\v.cell? ⟨gx,2,none⟩=some (.slice a dl cc)/\v.cell? ⟨gx,3,none⟩=some (.int .i64 ex)) (first|(with_reducible exact D1 _ (by assumption))|(with_reducible exact K3 _ _ _ _ _ _ (D1 _ (by assumption))))
  (first
    |(go_at_call 19;refine(kE _ (m0.below hdr)).mono ?_;rintro e t1 ⟨rfl,hbt'⟩;have hb1:=hdr.trans (hbt'.mono (Nat.le_refl _));clear hbt')
    |(go_at_call 18;refine(kR _ _ _ (okB _ _ _ _ ho hb1)).mono ?_;rintro e t3 ⟨rfl,hbt'⟩;have hb3:=hb1.trans (hbt'.mono hb1.size);clear hbt' hb1;have r3:=c0.below hb3;have x0:=r3.cell 0 rfl;have x1:=r3.cell 1 rfl;have x2:=r3.cell 2 rfl;have x3:=r3.cell 3 rfl;have x4:=r3.cell 4 rfl;have z0:=r3.frozen 0;have z1:=r3.frozen 1;have z2:=r3.frozen 2;have z3:=r3.frozen 3;have z4:=r3.frozen 4))
 all_goals go_wp2_with fail
 all_goals exact bodyPost_ret (v:=.agg #[.int .u64 h,.int .u64 l,.int .i64 cd,.int .i64 off,.int .i64 fl]) (by simp[results,Tryz.results6,go_sem,x0,x1,x2,x3,x4]) rfl ⟨rfl,iS (b0.trans (hb3.mono b0.size)) _ (Nat.le_refl _) _ _ _ _ _⟩

theorem Tryz.infoY:(Tryz.prog.info? 5).map (fun i=>(i.zero,i.size,i.bytes))=some (some (.int .u8 0),1,1):=by kernel_rfl

def UB (xs:List Nat):List Value:=xs.map fun x:Nat=>Value.int .u8 (x:Int)

theorem aP (xs:List Nat):(UB xs).length=xs.length:=by simp[UB]

theorem cN (xs ys:List Nat):UB (xs++ys)=UB xs++UB ys:=by simp[UB]

theorem eJ (xs:List Nat)(i:Nat)(h:i<xs.length):(UB xs)[i]? =some (.int .u8 ((xs.getD i 0:Nat):Int)):=by
 simp[UB,List.getD_eq_getElem?_getD,List.getElem?_eq_getElem h]

theorem iB (xs:List Nat):∀u∈UB xs,u.oneCell'=true:=by
 intro u hu;obtain⟨_,_,rfl⟩:=List.mem_map.1 hu;rfl

def RdY (w:World)(ao:Option Addr)(xs:List Nat):Prop:=
 0<xs.length->∃b off,ao=some ⟨b,off,none⟩/\∀i,i<xs.length->w.cell? ⟨b,off+i,none⟩=some (.int .u8 ((xs.getD i 0:Nat):Int))

theorem RdY.nil (w:World)(ao:Option Addr):RdY w ao []:=fun h=>by simp at h

theorem RdY.below {w w':World}{ao:Option Addr}{xs:List Nat}(h:RdY w ao xs)(hb:Below w.heap.size w w'):RdY w' ao xs:=by
 intro hp;obtain⟨b,off,e,hc⟩:=h hp
 refine⟨b,off,e,fun i hi=>?_⟩
 exact(hb.cell (p:=⟨b,off+i,none⟩) (World.block_lt_of_cell? w _ (hc i hi))).trans (hc i hi)

theorem RdY.take {w:World}{ao:Option Addr}{xs:List Nat}(h:RdY w ao xs)(n:Nat):RdY w ao (xs.take n):=by
 intro hp;have hl:(xs.take n).length<=xs.length:=by simp;omega
 obtain⟨b,off,e,hc⟩:=h (by omega)
 refine⟨b,off,e,fun i hi=>?_⟩
 rw[hc i (by omega)];have:i<n:=by simp at hi;omega
 simp[List.getD_eq_getElem?_getD,this]

theorem RdY.own {w:World}{base n cap:Nat}{ao:Option Addr}{xs:List Nat}(h:w.ownsRow base 5 1 (.slice ao n cap) n (UB xs)):RdY w ao xs:=by
 intro hp;have hl:=h.1;rw[aP]at hl;rcases h.2 with⟨he,h0⟩|⟨g,cap',cur,he,_,hg,_,_,_,ht⟩
 . omega
 . simp only[Value.slice.injEq]at he;obtain⟨rfl,_,rfl⟩:=he
   refine⟨g,0,rfl,fun i hi=>?_⟩
   have:=h.cellAt i (by omega);rw[Nat.zero_add,this,eJ xs i hi]

theorem jE {w:World}{base n cap:Nat}{ao:Option Addr}{xs:List Value}(h:w.ownsRow base 5 1 (.slice ao n cap) n xs):n<=cap:=by
 rcases h.2 with⟨he,h0⟩|⟨g,cap',cur,he,_,hg,hc,_⟩
 . simp at he;omega
 . simp only[Value.slice.injEq]at he;obtain⟨_,_,rfl⟩:=he;exact hc

theorem gE {w:World}{base n cap:Nat}{ao:Option Addr}{xs:List Nat}(h:w.ownsRow base 5 1 (.slice ao n cap) n (UB xs)):xs.length=n:=by
 have:=h.1;rw[aP]at this;omega

theorem cV {w:World}{base n:Nat}{v:Value}{xs:List Value}(h:w.ownsRow base 5 1 v n xs):∃ao cap,v=.slice ao n cap:=by
 rcases h.2 with⟨rfl,rfl⟩|⟨g,cap',cur,rfl,_⟩
 . exact⟨none,0,rfl⟩
 . exact⟨_,_,rfl⟩

theorem gW {w:World}{base base' n:Nat}{v:Value}{xs:List Value}(h:w.ownsRow base 5 1 v n xs)(hb:base'<=base):w.ownsRow base' 5 1 v n xs:=by
 refine⟨h.1,?_⟩;rcases h.2 with h'|⟨g,cap',cur,e,hg,r⟩
 . exact .inl h'
 . exact .inr ⟨g,cap',cur,e,by omega,r⟩

theorem jJ {w w':World}{base n:Nat}{v:Value}{xs:List Value}(h:w.ownsRow base 5 1 v n xs)(hb:Below w.heap.size w w'):w'.ownsRow base 5 1 v n xs:=by
 refine⟨h.1,?_⟩;rcases h.2 with h'|⟨g,cap',cur,e,hg,hh,r⟩
 . exact .inl h'
 . exact .inr ⟨g,cap',cur,e,hg,by rw[hb.block g (Array.getElem?_eq_some_iff.1 hh).1];exact hh,r⟩

theorem tN {w:World}{base g n:Nat}{xs:List Value}(h:w.heap[g]? =some (.cells xs.toArray 5 (0,0)))(hb:base<=g)(hn:xs.length=n)(hm:n<=maxLen):w.ownsRow base 5 1 (.slice (some ⟨g,0,none⟩) n n) n xs:=
 ⟨by omega,.inr ⟨g,n,xs.toArray,rfl,hb,h,Nat.le_refl _,hm,by simp[hn],by simp[<-hn]⟩⟩

def BlkY (w:World)(g:Nat)(zs:List Nat):Prop:=w.heap[g]? =some (.cells (UB zs).toArray 5 (0,0))

theorem BlkY.lt {w:World}{g:Nat}{zs:List Nat}(h:BlkY w g zs):g<w.heap.size:=(Array.getElem?_eq_some_iff.1 h).1

theorem BlkY.cell {w:World}{g:Nat}{zs:List Nat}(h:BlkY w g zs)(i:Nat)(hi:i<zs.length):w.cell? ⟨g,i,none⟩=some (.int .u8 ((zs.getD i 0:Nat):Int)):=by
 rw[cell_of_row w g i _ _ (0,0) h,List.getElem?_toArray,eJ zs i hi]

theorem BlkY.frozen {w:World}{g:Nat}{zs:List Nat}(h:BlkY w g zs)(i:Nat):w.frozen? ⟨g,i,none⟩=false:=frozen_of_row w g i _ _ h

theorem PG (zs:List Nat)(i x:Nat):UB (zs.set i x)=(UB zs).set i (.int .u8 (x:Int)):=by simp[UB,List.map_set]

theorem BlkY.set {w:World}{g:Nat}{zs:List Nat}(h:BlkY w g zs)(i:Nat)(x:Nat)(v:Int)(hv:v=(x:Int)):BlkY (w.setCell ⟨g,i,none⟩ (.int .u8 v)) g (zs.set i x):=by
 subst hv;unfold BlkY;rw[heap_setCell_same w g i _ _ _ h,PG]
 simp

theorem BlkY.set_other {w:World}{g:Nat}{zs:List Nat}(h:BlkY w g zs)(a:Addr)(ha:a.block≠g)(v:Value):BlkY (w.setCell a v) g zs:=by
 unfold BlkY
 rw[Below.heap_setCell _ _ _ _ (fun e=>ha e.symm)];exact h

theorem BlkY.below {w w':World}{B g:Nat}{zs:List Nat}(h:BlkY w g zs)(hb:Below B w w')(hg:g<B):BlkY w' g zs:=(hb.block g hg).trans h

theorem BlkY.keep {w w':World}{g:Nat}{zs:List Nat}(h:BlkY w g zs)(hb:Below w.heap.size w w'):BlkY w' g zs:=(hb.block g h.lt).trans h

theorem BlkY.grown {w w':World}{g:Nat}{zs:List Nat}{row:Option Nat}(h:BlkY w g zs)(hb:w.grownBy w' row)(hr:some g≠row):BlkY w' g zs:=(hb.block g h.lt hr).trans h

theorem BlkY.drewN {w:World}{g:Nat}{zs:List Nat}(h:BlkY w g zs)(q:Nat):BlkY (w.drewN q) g zs:=by
 unfold BlkY;rw[World.heap_drewN];exact h

theorem BlkY.rd {w:World}{g:Nat}{zs:List Nat}(h:BlkY w g zs)(off n:Nat)(hn:off+n<=zs.length):RdY w (some ⟨g,off,none⟩) ((zs.drop off).take n):=by
 intro hp
 refine⟨g,off,rfl,fun i hi=>?_⟩
 have hi':i<n:=by simp at hi;omega
 rw[h.cell (off+i) (by omega)]
 simp[List.getD_eq_getElem?_getD,hi']

theorem BlkY.rd0 {w:World}{g:Nat}{zs:List Nat}(h:BlkY w g zs):RdY w (some ⟨g,0,none⟩) zs:=by
 have:=h.rd 0 zs.length (by omega)
 simpa using this

theorem BlkY.own {w:World}{base g n:Nat}{zs:List Nat}(h:BlkY w g zs)(hb:base<=g)(hn:zs.length=n)(hm:n<=maxLen):w.ownsRow base 5 1 (.slice (some ⟨g,0,none⟩) n n) n (UB zs):=
 tN h hb (by rw[aP,hn]) hm

theorem DT {w:World}{base n cap:Nat}{ao:Option Addr}{xs:List Value}(h:w.ownsRow base 5 1 (.slice ao n cap) n xs)(hn:0<n):∃g,ao=some ⟨g,0,none⟩/\base<=g:=by
 rcases h.2 with⟨he,h0⟩|⟨g,cap',cur,he,hb,_⟩
 . omega
 . simp only[Value.slice.injEq]at he;exact⟨g,he.1,hb⟩

structure OwnY (w:World)(lo hi:Nat)(ao:Option Addr)(cap:Nat)(r:List Nat):Prop where
 row:w.ownsRow 0 5 1 (.slice ao r.length cap) r.length (UB r)
 place:∀k,(Value.slice ao r.length cap).ownBlock=some k->lo<=k/\k<hi

theorem OwnY.of {w:World}{base:Nat}{ao:Option Addr}{cap:Nat}{r:List Nat}(h:w.ownsRow base 5 1 (.slice ao r.length cap) r.length (UB r)):OwnY w base w.heap.size ao cap r:=
 ⟨gW h (Nat.zero_le _),fun k hk=>h.lt k hk⟩

theorem OwnY.rd {w:World}{lo hi:Nat}{ao:Option Addr}{cap:Nat}{r:List Nat}(h:OwnY w lo hi ao cap r):RdY w ao r:=RdY.own h.row

theorem OwnY.keep {w w':World}{lo hi:Nat}{ao:Option Addr}{cap:Nat}{r:List Nat}(h:OwnY w lo hi ao cap r)(hb:Below w.heap.size w w'):OwnY w' lo hi ao cap r:=⟨jJ h.row hb,h.place⟩

theorem OwnY.drewN {w:World}{lo hi:Nat}{ao:Option Addr}{cap:Nat}{r:List Nat}(h:OwnY w lo hi ao cap r)(q:Nat):OwnY (w.drewN q) lo hi ao cap r:=h.keep (below_drewN (Below.refl _ _) q)

theorem OwnY.grown {w w':World}{lo hi:Nat}{ao:Option Addr}{cap:Nat}{r:List Nat}{row:Option Nat}(h:OwnY w lo hi ao cap r)(hg:w.grownBy w' row)(hne:∀k,lo<=k->k<hi->row≠some k):OwnY w' lo hi ao cap r:=by
 refine⟨h.row.kept hg ?_,h.place⟩
 cases hv:(Value.slice ao r.length cap).ownBlock with
 |none=>exact .inl rfl
 |some k=>right;intro e;have:=h.place k hv;exact hne k this.1 this.2 e.symm

theorem BlkY.toOwn {w:World}{g:Nat}{zs:List Nat}(h:BlkY w g zs)(hm:zs.length<=4194304):OwnY w g (g+1) (some ⟨g,0,none⟩) zs.length zs:=
 ⟨h.own (Nat.zero_le _) rfl (by unfold maxLen;omega),fun k hk=>by simp[Value.ownBlock]at hk;omega⟩

theorem RdB.y {w:World}{ao:Option Addr}{bs:List Nat}(h:RdB w ao bs):RdY w ao bs:=h.2

theorem RdB.of {w:World}{ao:Option Addr}{bs:List Nat}(h:RdY w ao bs)(hb:∀x∈bs,x<256):RdB w ao bs:=⟨hb,h⟩

def RetY (w w':World)(e:Ending)(r:List Nat):Prop:=
 ∃ra rc,e=.returned (.slice ra r.length rc)/\w'.ownsRow w.heap.size 5 1 (.slice ra r.length rc) r.length (UB r)/\Below w.heap.size w w'

theorem RetY.later {w0 w w':World}{e:Ending}{r:List Nat}(h:RetY w w' e r)(hb:Below w0.heap.size w0 w):RetY w0 w' e r:=by
 obtain⟨ra,rc,h1,h2,h3⟩:=h;exact⟨ra,rc,h1,gW h2 hb.size,hb.trans (h3.mono hb.size)⟩

def RetR (w w':World)(e:Ending)(r:List Nat):Prop:=
 ∃ra rc,e=.returned (.slice ra r.length rc)/\RdY w' ra r/\r.length<=rc/\Below w.heap.size w w'

theorem RetY.toR {w w':World}{e:Ending}{r:List Nat}(h:RetY w w' e r):RetR w w' e r:=by
 obtain⟨ra,rc,h1,h2,h3⟩:=h;exact⟨ra,rc,h1,RdY.own h2,jE h2,h3⟩

theorem RetR.later {w0 w w':World}{e:Ending}{r:List Nat}(h:RetR w w' e r)(hb:Below w0.heap.size w0 w):RetR w0 w' e r:=by
 obtain⟨ra,rc,h1,h2,h4,h3⟩:=h;exact⟨ra,rc,h1,h2,h4,hb.trans (h3.mono hb.size)⟩

theorem bU {W:World}{base e k j:Nat}{v:Value}{xs:List Value}(h:W.ownsRow base e 1 v k xs)(hj:v.ownBlock=some j):base<=j:=by
 rcases h.2 with⟨rfl,_⟩|⟨g,cap,cur,rfl,hb,_⟩
 . simp[Value.ownBlock]at hj
 . simp only[Value.ownBlock,Option.some.injEq]at hj;omega

end Go.Proofs.YtfdgkleoaehjaaaGreatDoor
namespace Go.Proofs.YtfdgkleoaehjaaaGreatDoor.M
set_option linter.unusedVariables false
set_option maxRecDepth 100000

def low (c:Nat):Nat:=if 65<=c/\c<=90 then c+32 else c

def dgt (c:Nat):Bool:=decide (48<=c/\c<=57)

def cut (k:Nat):List Nat->List Nat×List Nat×Bool
 |[]=>([],[],false)
 |x::r=>if x=k then([],r,true)else(x::(cut k r).1,(cut k r).2.1,(cut k r).2.2)

def signed:List Nat->List Nat×Bool
 |[]=>([],false)
 |x::r=>if x=43\/x=45 then(r,decide (x=45))else(x::r,false)

def iV (x:Nat)(l:List Nat):Nat:=l.foldl (fun e c=>min (e*10+(c-48)) 1000000) x

def aT (l:List Nat):List Nat:=l.dropWhile (fun c=>decide (c=48))

def cL (l:List Nat):List Nat:=(l.reverse.dropWhile (fun c=>decide (c=48))).reverse

def bJ (l:List Nat):List Nat:=cL (aT l)

def iJ (l:List Nat)(e:Int):Int:=if bJ l=[]then 0 else e+(aT l).length-(bJ l).length

structure Dec where
 kind:Int
 neg:Bool
 digits:List Nat
 exp:Int

def fZ:List Nat:=[105,110,102]

def aG:List Nat:=[105,110,102,105,110,105,116,121]

def gK:List Nat:=[110,97,110]

def nN (c:List Nat×List Nat×Bool):Option (Bool×Nat):=
 if c.2.2 then(if(signed c.2.1).1=[]\/(signed c.2.1).1.all dgt=false then none else some ((signed c.2.1).2,iV 0 (signed c.2.1).1))else some (false,0)

def iK (n:Bool)(l:List Nat)(b:Nat)(x:Bool×Nat):Dec:=⟨1,n,bJ l,iJ l ((if x.1 then-(x.2:Int)else x.2)-b)⟩

def yA (n:Bool)(v:List Nat):Option Dec:=
 if(cut 46 (cut 101 v).1).1.all dgt=false\/(cut 46 (cut 101 v).1).2.1.all dgt=false\/(cut 46 (cut 101 v).1).1.length+(cut 46 (cut 101 v).1).2.1.length=0 then none
 else(nN (cut 101 v)).map (iK n ((cut 46 (cut 101 v).1).1++(cut 46 (cut 101 v).1).2.1) (cut 46 (cut 101 v).1).2.1.length)

def mU (n:Bool)(v:List Nat):Option Dec:=
 if v=fZ\/v=aG then some ⟨2,n,[],0⟩else if v=gK then some ⟨3,false,[],0⟩else yA n v

def whole (t:List Nat):Option Dec:=mU (signed (t.map low)).2 (signed (t.map low)).1

def nG:List (List Nat):=[[],[48],[105,110,102],[110,102],[102],[110,97,110],[97,110],[110],[105,110,105,116,121],[110,105,116,121],[105,116,121],[116,121],[121]]

def eT (t:List Nat):Bool:=nG.any fun s=>(whole (t++s)).isSome

def jA (t:List Nat):Nat->Nat
 |0=>0
 |n+1=>if eT (t.take (n+1))then n+1 else jA t n

def vG (t:List Nat):Dec⊕Nat:=match whole t with
 |some d=> .inl d
 |none=> .inr (jA t t.length)

def aF (c:Nat):Nat:=
 if 48<=low c/\low c<=57 then 1 else if low c=43\/low c=45 then 2 else if low c=46 then 3 else if low c=101 then 4 else if low c=105\/low c=110 then 5 else 0

def next (st so:Nat):Nat:=match st,so with
 |1,1=>3|1,2=>2|1,3=>4|1,5=>10
 |2,1=>3|2,3=>4|2,5=>10
 |3,1=>3|3,3=>5|3,4=>7
 |4,1=>6
 |5,1=>6|5,4=>7
 |6,1=>6|6,4=>7
 |7,1=>9|7,2=>8
 |8,1=>9
 |9,1=>9
 |_,_=>0

structure Sn where
 neg:Bool
 digits:List Nat
 behind:Nat
 expNeg:Bool
 exponent:Nat

def take (st c:Nat)(s:Sn):Sn:=
 if st=2 then { s with neg:=decide (c=45) }else if st=6 then { s with behind:=s.behind+1,digits:=s.digits++[c] }
 else if st=3 then { s with digits:=s.digits++[c] }else if st=8 then { s with expNeg:=decide (c=45) }
 else if st=9 then { s with exponent:=min (s.exponent*10+(c-48)) 1000000 }else s

inductive Out where
 |stuck (o:Nat)
 |word (b:Nat) (n:Bool)
 |fin (st:Nat) (s:Sn)

def aR:List Nat->Nat->Nat->Sn->Out
 |[],_,st,s=> .fin st s
 |c::r,o,st,s=>if next st (aF c)=0 then .stuck o else if next st (aF c)=10 then .word o s.neg else aR r (o+1) (next st (aF c)) (take (next st (aF c)) c s)

def aI:List Nat->List Nat->Nat
 |c::r,x::y=>if low c=x then aI r y+1 else 0
 |_,_=>0

def A7 (st:Nat):Bool:=decide (st=3\/st=5\/st=6\/st=9)

def Sn.dec (s:Sn):Dec:=iK s.neg s.digits s.behind (s.expNeg,s.exponent)

def dK (v:List Nat)(b:Nat)(n:Bool):Dec⊕Nat:=
 if v.map low=fZ then .inl ⟨2,n,[],0⟩else if v.map low=aG then .inl ⟨2,n,[],0⟩else if v.map low=gK then .inl ⟨3,false,[],0⟩
 else .inr (b+max (max (max 0 (aI v fZ)) (aI v aG)) (aI v gK))

def Out.scan (t:List Nat):Out->Dec⊕Nat
 | .stuck o=> .inr o
 | .word b n=>dK (t.drop b) b n
 | .fin st s=>if A7 st then .inl s.dec else .inr t.length

def iP (t:List Nat):Dec⊕Nat:=(aR t 0 1 ⟨false,[],0,false,0⟩).scan t

def Out.acc:Out->Option Sn
 | .fin st s=>if A7 st then some s else none
 |_=>none

theorem gA (c:Nat):low (low c)=low c:=by
 unfold low
 by_cases h:65<=c/\c<=90
 . rw[if_pos h,if_neg (by omega)]
 . rw[if_neg h,if_neg h]

theorem gG (c:Nat):aF (low c)=aF c:=by unfold aF;rw[gA]

theorem vS (c:Nat):dgt c=true↔(48<=c/\c<=57):=by simp[dgt]

theorem A8 (c:Nat)(h:c<48\/57<c):dgt c=false:=by
 cases e:dgt c with
 |false=>rfl
 |true=>rw[vS]at e;omega

theorem aQ (c:Nat)(hl:low c=c):(aF c=1/\dgt c=true/\48<=c/\c<=57)\/(aF c=2/\dgt c=false/\(c=43\/c=45))\/(aF c=3/\dgt c=false/\c=46)\/(aF c=4/\dgt c=false/\c=101)\/
 (aF c=5/\dgt c=false/\(c=105\/c=110))\/(aF c=0/\dgt c=false/\c≠43/\c≠45/\c≠46/\c≠101/\c≠105/\c≠110):=by
 unfold aF;rw[hl]
 by_cases h1:48<=c/\c<=57
 . exact .inl ⟨if_pos h1,(vS c).2 h1,h1⟩
 . have hd:=A8 c (by omega);rw[if_neg h1]
   by_cases h2:c=43\/c=45
   . exact .inr (.inl ⟨if_pos h2,hd,h2⟩)
   . rw[if_neg h2]
     by_cases h3:c=46
     . exact .inr (.inr (.inl ⟨if_pos h3,hd,h3⟩))
     . rw[if_neg h3]
       by_cases h4:c=101
       . exact .inr (.inr (.inr (.inl ⟨if_pos h4,hd,h4⟩)))
       . rw[if_neg h4]
         by_cases h5:c=105\/c=110
         . exact .inr (.inr (.inr (.inr (.inl ⟨if_pos h5,hd,h5⟩))))
         . exact .inr (.inr (.inr (.inr (.inr ⟨if_neg h5,hd,by omega,by omega,by omega,by omega,by omega,by omega⟩))))

theorem qP (c:Nat)(r:List Nat)(o st:Nat)(s:Sn)(h:next st (aF c)=0):(aR (c::r) o st s).acc=none:=by rw[aR,if_pos h];rfl

theorem step {c st st':Nat}(r:List Nat)(o:Nat)(s:Sn)(h:next st (aF c)=st')(h0:st'≠0)(h1:st'≠10):aR (c::r) o st s=aR r (o+1) st' (take st' c s):=by
 rw[aR,h,if_neg h0,if_neg h1]

def Low (v:List Nat):Prop:=∀c∈v,low c=c

theorem Low.tail {c:Nat}{r:List Nat}(h:Low (c::r)):Low r:=fun x hx=>h x (List.mem_cons_of_mem _ hx)

theorem Low.head {c:Nat}{r:List Nat}(h:Low (c::r)):low c=c:=h c List.mem_cons_self

theorem QK (v:List Nat):∀(hv:Low v)(o:Nat)(s:Sn),(aR v o 9 s).acc=if v.all dgt=false then none else some { s with exponent:=iV s.exponent v }:=by
 induction v with
 |nil=>intro _ o s;rfl
 |cons c r ih=>
  intro hv o s;rcases aQ c hv.head with h|h|h|h|h|h
  . rw[step r o s (st':=9) (by rw[h.1];rfl) (by decide) (by decide),ih hv.tail,List.all_cons,h.2.1,Bool.true_and]
    rfl
  all_goals
   rw[qP c r o 9 s (by rw[h.1];rfl),List.all_cons,h.2.1,Bool.false_and,if_pos rfl]

theorem SC (v:List Nat)(hv:Low v)(o:Nat)(s:Sn):(aR v o 8 s).acc=if v=[]\/v.all dgt=false then none else some { s with exponent:=iV s.exponent v }:=by
 cases v with
 |nil=>rfl
 |cons c r=>
  rcases aQ c hv.head with h|h|h|h|h|h
  . rw[step r o s (st':=9) (by rw[h.1];rfl) (by decide) (by decide),QK r hv.tail,List.all_cons,h.2.1,Bool.true_and]
    by_cases k:r.all dgt=false
    . rw[if_pos k,if_pos (.inr k)]
    . rw[if_neg k,if_neg (fun x=>x.elim (fun y=>by simp at y) k)];rfl
  all_goals
   rw[qP c r o 8 s (by rw[h.1];rfl),List.all_cons,h.2.1,Bool.false_and,if_pos (.inr rfl)]

theorem jL {c:Nat}(r:List Nat)(h:c=43\/c=45):signed (c::r)=(r,decide (c=45)):=by rw[signed,if_pos h]

theorem gV {c:Nat}(r:List Nat)(h:¬(c=43\/c=45)):signed (c::r)=(c::r,false):=by rw[signed,if_neg h]

theorem yR (a v:List Nat):nN (a,v,true)=if(signed v).1=[]\/(signed v).1.all dgt=false then none else some ((signed v).2,iV 0 (signed v).1):=by
 unfold nN;rw[if_pos rfl]

theorem QP (v:List Nat)(hv:Low v)(o:Nat)(s:Sn)(h1:s.expNeg=false)(h2:s.exponent=0)(a:List Nat):
 (aR v o 7 s).acc=(nN (a,v,true)).map fun x=>{ s with expNeg:=x.1,exponent:=x.2 }:=by
 rw[yR]
 cases v with
 |nil=>rfl
 |cons c r=>
  rcases aQ c hv.head with h|h|h|h|h|h
  . rw[step r o s (st':=9) (by rw[h.1];rfl) (by decide) (by decide),QK r hv.tail,gV r (by omega),List.all_cons,h.2.1,Bool.true_and]
    by_cases k:r.all dgt=false
    . rw[if_pos k,if_pos (.inr k)];rfl
    . rw[if_neg k,if_neg (fun x=>x.elim (fun y=>by simp at y) k)]
      obtain⟨s1,s2,s3,s4,s5⟩:=s;simp only at h1 h2;subst h1 h2
      rfl
  . rw[step r o s (st':=8) (by rw[h.1];rfl) (by decide) (by decide),SC r hv.tail,jL r h.2.2]
    by_cases k:r=[]\/r.all dgt=false
    . rw[if_pos k,if_pos k];rfl
    . rw[if_neg k,if_neg k];obtain⟨s1,s2,s3,s4,s5⟩:=s;simp only at h1 h2;subst h1 h2
      rfl
  all_goals
   rw[qP c r o 7 s (by rw[h.1];rfl),gV r (by omega),List.all_cons,h.2.1,Bool.false_and,if_pos (.inr rfl)]
   rfl

theorem nD (k:Nat)(r:List Nat):cut k (k::r)=([],r,true):=by rw[cut,if_pos rfl]

theorem bL {k c:Nat}(r:List Nat)(h:c≠k):cut k (c::r)=(c::(cut k r).1,(cut k r).2.1,(cut k r).2.2):=by rw[cut,if_neg h]

def lW (s:Sn)(v:List Nat):Option Sn:=
 if(cut 101 v).1.all dgt=false then none else(nN (cut 101 v)).map fun x=>⟨s.neg,s.digits++(cut 101 v).1,s.behind+(cut 101 v).1.length,x.1,x.2⟩

theorem Q1 (v:List Nat):∀(hv:Low v)(o:Nat)(s:Sn)(h1:s.expNeg=false)(h2:s.exponent=0),(aR v o 6 s).acc=lW s v:=by
 induction v with
 |nil=>
  intro _ o s h1 h2;obtain⟨s1,s2,s3,s4,s5⟩:=s;simp only at h1 h2;subst h1 h2
  simp[aR,Out.acc,A7,lW,cut,nN]
 |cons c r ih=>
  intro hv o s h1 h2;rcases aQ c hv.head with h|h|h|h|h|h
  . rw[step r o s (st':=6) (by rw[h.1];rfl) (by decide) (by decide),ih hv.tail _ (take 6 c s) h1 h2];unfold lW;rw[bL r (by omega)];simp only[List.all_cons,h.2.1,Bool.true_and]
    by_cases k:(cut 101 r).1.all dgt=false
    . rw[if_pos k,if_pos k]
    . rw[if_neg k,if_neg k]
      refine congrArg (fun f=>Option.map f (nN (cut 101 r))) (funext fun x=>?_)
      simp[take,Nat.add_comm 1,Nat.add_assoc]
  . rw[qP c r o 6 s (by rw[h.1];rfl)];unfold lW;rw[bL r (by omega)];simp only[List.all_cons,h.2.1,Bool.false_and,if_true]
  . rw[qP c r o 6 s (by rw[h.1];rfl)];unfold lW;rw[bL r (by omega)];simp only[List.all_cons,h.2.1,Bool.false_and,if_true]
  . rw[step r o s (st':=7) (by rw[h.1];rfl) (by decide) (by decide),QP r hv.tail _ (take 7 c s) h1 h2 []];obtain⟨_,_,rfl⟩:=h;unfold lW;rw[nD]
    simp[take]
  all_goals
   rw[qP c r o 6 s (by rw[h.1];rfl)];unfold lW;rw[bL r (by omega)];simp only[List.all_cons,h.2.1,Bool.false_and,if_true]

theorem RO (v:List Nat)(hv:Low v)(o:Nat)(s:Sn)(h1:s.expNeg=false)(h2:s.exponent=0):(aR v o 5 s).acc=lW s v:=by
 rw[<-Q1 v hv o s h1 h2]
 cases v with
 |nil=>rfl
 |cons c r=>
  rw[aR,aR]
  rcases aQ c hv.head with h|h|h|h|h|h<;>rw[h.1]<;>rfl

theorem RK (v:List Nat)(hv:Low v)(o:Nat)(s:Sn)(h1:s.expNeg=false)(h2:s.exponent=0):(aR v o 4 s).acc=if(cut 101 v).1=[]then none else lW s v:=by
 cases v with
 |nil=>rfl
 |cons c r=>
  rw[<-Q1 _ hv o s h1 h2];rcases aQ c hv.head with h|h|h|h|h|h
  . rw[bL r (by omega),if_neg (by simp),aR,aR,h.1];rfl
  . rw[bL r (by omega),if_neg (by simp),aR,aR,h.1];rfl
  . rw[bL r (by omega),if_neg (by simp),aR,aR,h.1];rfl
  . rw[h.2.2,nD,if_pos rfl];exact qP _ r o 4 s (by rfl)
  all_goals rw[bL r (by omega),if_neg (by simp),aR,aR,h.1];rfl

def gO (s:Sn)(v:List Nat):Option Sn:=
 if(cut 46 (cut 101 v).1).1.all dgt=false\/(cut 46 (cut 101 v).1).2.1.all dgt=false then none
 else(nN (cut 101 v)).map fun x=>⟨s.neg,s.digits++((cut 46 (cut 101 v).1).1++(cut 46 (cut 101 v).1).2.1),s.behind+(cut 46 (cut 101 v).1).2.1.length,x.1,x.2⟩

theorem RU (v:List Nat):∀(hv:Low v)(o:Nat)(s:Sn)(h1:s.expNeg=false)(h2:s.exponent=0),(aR v o 3 s).acc=gO s v:=by
 induction v with
 |nil=>
  intro _ o s h1 h2;obtain⟨s1,s2,s3,s4,s5⟩:=s;simp only at h1 h2;subst h1 h2
  simp[aR,Out.acc,A7,gO,cut,nN]
 |cons c r ih=>
  intro hv o s h1 h2;rcases aQ c hv.head with h|h|h|h|h|h
  . rw[step r o s (st':=3) (by rw[h.1];rfl) (by decide) (by decide),ih hv.tail _ (take 3 c s) h1 h2];unfold gO;rw[bL r (show c≠101 by omega)];simp only;rw[bL _ (show c≠46 by omega)];simp only[List.all_cons,h.2.1,Bool.true_and]
    by_cases k:(cut 46 (cut 101 r).1).1.all dgt=false\/(cut 46 (cut 101 r).1).2.1.all dgt=false
    . rw[if_pos k,if_pos k]
    . rw[if_neg k,if_neg k]
      refine congrArg (fun f=>Option.map f (nN (cut 101 r))) (funext fun x=>?_)
      simp[take]
  . rw[qP c r o 3 s (by rw[h.1];rfl)];unfold gO;rw[bL r (show c≠101 by omega)];simp only;rw[bL _ (show c≠46 by omega)];simp only[List.all_cons,h.2.1,Bool.false_and,true_or,if_true]
  . rw[step r o s (st':=5) (by rw[h.1];rfl) (by decide) (by decide),RO r hv.tail _ (take 5 c s) h1 h2];obtain⟨_,_,rfl⟩:=h;unfold gO lW;rw[bL r (show 46≠101 by omega)];simp only;rw[nD];simp only[List.all_nil,List.nil_append];cases k:(cut 101 r).1.all dgt
    . simp
    . simp only[Bool.true_eq_false,or_self,if_false];rfl
  . rw[step r o s (st':=7) (by rw[h.1];rfl) (by decide) (by decide),QP r hv.tail _ (take 7 c s) h1 h2 []];obtain⟨_,_,rfl⟩:=h;unfold gO;rw[nD]
    simp[take,cut]
  all_goals
   rw[qP c r o 3 s (by rw[h.1];rfl)];unfold gO;rw[bL r (show c≠101 by omega)];simp only;rw[bL _ (show c≠46 by omega)];simp only[List.all_cons,h.2.1,Bool.false_and,true_or,if_true]

theorem RQ (v:List Nat)(hv:Low v)(o st:Nat)(hst:st=1\/st=2)(s:Sn)(h1:s.expNeg=false)(h2:s.exponent=0)(hs:st=1->∀c r,v=c::r->¬(c=43\/c=45))(hw:∀c r,v=c::r->¬(c=105\/c=110)):
 (aR v o st s).acc=if(cut 46 (cut 101 v).1).1.length+(cut 46 (cut 101 v).1).2.1.length=0 then none else gO s v:=by
 cases v with
 |nil=>rcases hst with rfl|rfl<;>rfl
 |cons c r=>
  rcases aQ c hv.head with h|h|h|h|h|h
  . rw[<-RU _ hv o s h1 h2,bL r (show c≠101 by omega)];simp only
    rw[bL _ (show c≠46 by omega),if_neg (by simp),step r o s (st:=st) (st':=3) (by rw[h.1];rcases hst with rfl|rfl<;>rfl) (by decide) (by decide),step r o s (st:=3) (st':=3) (by rw[h.1];rfl) (by decide) (by decide)]
  . rcases hst with rfl|rfl
    . exact absurd h.2.2 (hs rfl c r rfl)
    . rw[qP c r o 2 s (by rw[h.1];rfl)];unfold gO;rw[bL r (show c≠101 by omega)];simp only;rw[bL _ (show c≠46 by omega)];simp only[List.all_cons,h.2.1,Bool.false_and,true_or,if_true,ite_self]
  . rw[step r o s (st':=4) (by rw[h.1];rcases hst with rfl|rfl<;>rfl) (by decide) (by decide),RK r hv.tail _ (take 4 c s) h1 h2]
    obtain⟨_,_,rfl⟩:=h;unfold gO lW;rw[bL r (show 46≠101 by omega)];simp only;rw[nD];simp only[List.all_nil,List.nil_append,List.length_nil,Nat.zero_add,List.length_eq_zero_iff]
    by_cases k0:(cut 101 r).1=[]
    . rw[if_pos k0,if_pos k0]
    . rw[if_neg k0,if_neg k0];cases k:(cut 101 r).1.all dgt
      . simp
      . simp only[Bool.true_eq_false,or_self,if_false];rfl
  . rw[qP c r o st s (by rw[h.1];rcases hst with rfl|rfl<;>rfl)]
    obtain⟨_,_,rfl⟩:=h;rw[nD]
    simp[cut]
  . exact absurd h.2.2 (hw c r rfl)
  . rw[qP c r o st s (by rw[h.1];rcases hst with rfl|rfl<;>rfl)]
    unfold gO;rw[bL r (show c≠101 by omega)];simp only;rw[bL _ (show c≠46 by omega)];simp only[List.all_cons,h.2.1,Bool.false_and,true_or,if_true,ite_self]

end Go.Proofs.YtfdgkleoaehjaaaGreatDoor.M
