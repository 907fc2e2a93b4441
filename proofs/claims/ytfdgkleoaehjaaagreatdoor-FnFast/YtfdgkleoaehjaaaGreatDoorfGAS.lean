import Derived.Defers
import Derived.Recover
import Derived.Test.YtfdgkleoaehjaaaGreatDoorfGAR
set_option maxHeartbeats 2000000
namespace Go.Proofs.YtfdgkleoaehjaaaGreatDoor
open Go.RowKit
set_option linter.unusedVariables false
set_option maxRecDepth 100000

abbrev OE:Array Value:=#[.string ⟨#[]⟩,.string ⟨#[48]⟩,.string ⟨#[105,110,102]⟩,.string ⟨#[110,102]⟩,.string ⟨#[102]⟩,.string ⟨#[110,97,110]⟩,.string ⟨#[97,110]⟩,.string ⟨#[110]⟩,.string ⟨#[105,110,105,116,121]⟩,.string ⟨#[110,105,116,121]⟩,.string ⟨#[105,116,121]⟩,.string ⟨#[116,121]⟩,.string ⟨#[121]⟩]

def xY:List ByteArray:=[⟨#[]⟩,⟨#[48]⟩,⟨#[105,110,102]⟩,⟨#[110,102]⟩,⟨#[102]⟩,⟨#[110,97,110]⟩,⟨#[97,110]⟩,⟨#[110]⟩,⟨#[105,110,105,116,121]⟩,⟨#[110,105,116,121]⟩,⟨#[105,116,121]⟩,⟨#[116,121]⟩,⟨#[121]⟩]

theorem FH (k:Nat)(hk:k<13):OE[k]? =some (.string (xY.getD k ⟨#[]⟩)):=by
 rcases(show k=0\/k=1\/k=2\/k=3\/k=4\/k=5\/k=6\/k=7\/k=8\/k=9\/k=10\/k=11\/k=12 by omega)with rfl|rfl|rfl|rfl|rfl|rfl|rfl|rfl|rfl|rfl|rfl|rfl|rfl<;>rfl

theorem FC (k:Nat)(hk:k<13):aX (xY.getD k ⟨#[]⟩)=M.nG.getD k []/\(xY.getD k ⟨#[]⟩).size=(M.nG.getD k []).length/\(xY.getD k ⟨#[]⟩).size<=5:=by
 rcases(show k=0\/k=1\/k=2\/k=3\/k=4\/k=5\/k=6\/k=7\/k=8\/k=9\/k=10\/k=11\/k=12 by omega)with rfl|rfl|rfl|rfl|rfl|rfl|rfl|rfl|rfl|rfl|rfl|rfl|rfl<;>decide

theorem F4 (bs:List Nat)(h:∀j,j<13->M.whole (bs++M.nG.getD j [])=none):M.eT bs=false:=by
 unfold M.eT;rw[List.any_eq_false];intro s hs;obtain⟨j,hj,rfl⟩:=List.getElem_of_mem hs;have:=h j hj;rw[List.getD_eq_getElem?_getD,List.getElem?_eq_getElem hj]at this;simp only[Option.getD_some]at this;rw[this]
 simp

theorem CG (bs:List Nat)(j:Nat)(hj:j<13){d:M.Dec}(h:M.whole (bs++M.nG.getD j [])=some d):M.eT bs=true:=by
 rw[M.iC];refine⟨M.nG.getD j [],?_,d,h⟩;rw[List.getD_eq_getElem?_getD,List.getElem?_eq_getElem (show j<M.nG.length from hj)];exact List.getElem_mem _

theorem L7 {bs:List Nat}(h:∀x∈bs,x<256)(s:ByteArray):∀x∈bs++aX s,x<256:=by
 intro x hx;rcases List.mem_append.1 hx with hx|hx
 . exact h x hx
 . unfold aX at hx;obtain⟨y,_,rfl⟩:=List.mem_map.1 hx;exact y.toNat_lt

theorem vW (ao:Option Addr)(n c:Nat)(bs:List Nat)(w:World)(hl:bs.length=n)(hn:n<=9000)(hno:ao=none->c=0)(hr:RdB w ao bs)(b:Bool)(hb:b=M.eT bs):
 Calls Tryz.prog 27 #[.slice ao n c] w fun e w'=>e=.returned (.bool b)/\Below w.heap.size w w':=by
 have HB:=hid hb;clear hb;go_enter Tryz.func27,Tryz.ntmps27;go_wp2_with fail
 go_loopw [11] (fun i wr=>∃k:Nat,k<=13/\i=.int .i64 (k:Int)/\(∀j,j<k->M.whole (bs++M.nG.getD j [])=none)/\Cls wr w.heap.size OE 9/\Below w.heap.size w wr) (fun i _=>13-(intOf i).toNat)
 case atStart=>exact⟨0,by omega,rfl,fun j hj=>by omega,Cls.new _ _ _,(Below.refl _ _).alloc (Nat.le_refl _) _⟩
 case round=>
  rename World=>wr
  obtain⟨k,hk,rfl,hd,hC,hB⟩:=hrel;have HD:=hid hd;clear hd
  by_cases hlt:k<13
  . have hlt':(k:Int)<13:=by omega
    have hck:=hC.cell k (FH k hlt);obtain⟨g1,g2,g3⟩:=FC k hlt;generalize xY.getD k ⟨#[]⟩=s at*;have G1:=hid g1;have G2:=hid g2;clear g1 g2;have rA:=hr.below hB;have HC:=hid hC;have BH:=hid hB;clear hC hB
    go_wp2_with (at_builtin;refine dC rfl _ _ rfl wr wr.heap.size _ 0 [] rfl (World.ownsRow_nil _ _ _ _) ao n c bs rfl hl hno rA (by omega) (Nat.le_refl _) ?_)
    intro ra1 rc1 wB ownB grB
    have bB:Below wr.heap.size wr wB:=(Below.refl _ _).grown grB (Nat.le_refl _) (fun j e=>by cases e)
    have hsB:=bB.size
    go_wp2_with (at_builtin;refine sG rfl _ _ rfl wB wr.heap.size (.slice ra1 n rc1) n bs rfl ownB s rfl (by omega) hsB ?_)
    intro ra2 rc2 wC ownC grC
    have bC:Below wr.heap.size wr wC:=bB.grown grC hsB (fun j e=>bU ownB e)
    have qC:RdV wC (.slice ra2 (n+s.size) rc2) (bs++aX s):=RdV.of_own ownC (L7 hr.1 s);have CC:=HC.out.below bC;have BC:=BH.out.trans (bC.mono BH.out.size);clear ownB ownC grB grC bB bC hsB rA HC BH;obtain⟨_,_,eq1,hc2,hcm2,hno2,rC⟩:=qC;have hll:(bs++aX s).length=n+s.size:=by rw[List.length_append,hl,G1.out,<-G2.out]
    rw[hll]at eq1 hc2;cases eq1;go_wp2_with fail;refine(qI ra2 (n+s.size) rc2 (bs++aX s) wC hll (by omega) rC _ rfl).mono ?_;intro e wD hW;rw[G1.out]at hW
    cases hwv:M.whole (bs++M.nG.getD k [])with
    |none=>
     rw[hwv]at hW;obtain⟨rfl,bD⟩:=hW;have CD:=CC.below bD;have BD:=BC.trans (bD.mono BC.size);have HWV:=hid hwv;have CDH:=hid CD;have BDH:=hid BD;clear hwv CC BC CD BD bD rC hno2;unfold rR;go_wp2_with fail;refine⟨⟨k+1,by omega,by go_num,?_,CDH.out.below ((Below.refl _ _).alloc (Nat.le_refl _) _),BDH.out.alloc BDH.out.size _⟩,by simp[intOf];omega⟩;intro j hj
     by_cases e:j=k
     . rw[e];exact HWV.out
     . exact HD.out j (by omega)
    |some d=>
     rw[hwv]at hW;obtain⟨ra3,rc3,rfl,_,bD⟩:=hW;have BD:=BC.trans (bD.mono BC.size);have HWV:=hid hwv;have BDH:=hid BD;clear hwv CC BC BD bD rC hno2;unfold rR;go_wp2_with fail;go_ret;exact⟨by rw[HB.out,CG bs k hlt HWV.out];rfl,BDH.out.alloc BDH.out.size _⟩
  . have e:k=13:=by omega
    subst e;have hbf:b=false:=by rw[HB.out];exact F4 bs HD.out
    have HBF:=hid hbf;have HC:=hid hC;have BH:=hid hB;clear hbf hC hB;go_wp2_with fail;go_ret;exact⟨by rw[HBF.out];rfl,BH.out⟩

def aC (bs:List Nat):M.Dec×Int×Int:=if 800<bs.length then(⟨0,false,[],0⟩,2,800)else match M.vG bs with
 | .inl d=>(d,0,0)
 | .inr k=>(⟨0,false,[],0⟩,1,(k:Int))

def scV (o:M.Dec×Int×Int)(v:Value):Value:=.agg #[.int .i64 o.1.kind,.bool o.1.neg,v,.int .i64 o.1.exp,.int .i64 o.2.1,.int .i64 o.2.2]

def ScR (w w':World)(e:Ending)(o:M.Dec×Int×Int):Prop:=
 ∃ra rc,e=.returned (scV o (.slice ra o.1.digits.length rc))/\w'.ownsRow w.heap.size 5 1 (.slice ra o.1.digits.length rc) o.1.digits.length (UB o.1.digits)/\Below w.heap.size w w'

theorem MH {W:World}{g:Nat}{xs:Array Value}{t:TypeId}(R:Cls W g xs t)(hx:xs.size=6)(a b c d e f:Value):
 Cls ((((((W.setCell ⟨g,0,none⟩ a).setCell ⟨g,1,none⟩ b).setCell ⟨g,2,none⟩ c).setCell ⟨g,3,none⟩ d).setCell ⟨g,4,none⟩ e).setCell ⟨g,5,none⟩ f) g #[a,b,c,d,e,f] t:=by
 refine(((((R.set 0 a _ rfl).set 1 b _ rfl).set 2 c _ rfl).set 3 d _ rfl).set 4 e _ rfl).set 5 f _ ?_;obtain⟨l⟩:=xs
 match l,hx with
 |[x0,x1,x2,x3,x4,x5],_=>rfl

theorem vU {w W:World}{g:Nat}(H:Below g w W)(a b c d e f:Value):
 Below g w ((((((W.setCell ⟨g,0,none⟩ a).setCell ⟨g,1,none⟩ b).setCell ⟨g,2,none⟩ c).setCell ⟨g,3,none⟩ d).setCell ⟨g,4,none⟩ e).setCell ⟨g,5,none⟩ f):=
 (((((H.setCell (p:=⟨g,0,none⟩) (Nat.le_refl _) _).setCell (p:=⟨g,1,none⟩) (Nat.le_refl _) _).setCell (p:=⟨g,2,none⟩) (Nat.le_refl _) _).setCell (p:=⟨g,3,none⟩) (Nat.le_refl _) _).setCell (p:=⟨g,4,none⟩) (Nat.le_refl _) _).setCell (p:=⟨g,5,none⟩) (Nat.le_refl _) _

abbrev zSc:Array Value:=#[.int .i64 0,.bool false,.slice none 0 0,.int .i64 0,.int .i64 0,.int .i64 0]

theorem jD (ao:Option Addr)(n c:Nat)(bs:List Nat)(w:World)(hl:bs.length=n)(hcap:n<=c)(hno:ao=none->c=0)(hr:RdB w ao bs)(o:M.Dec×Int×Int)(ho:o=aC bs):
 Calls Tryz.prog 8 #[.slice ao n c] w fun e w'=>ScR w w' e o:=by
 have HO:=hid ho;clear ho
 by_cases h8:800<n
 . have h8':(800:Int)<(n:Int):=by omega
   go_enter Tryz.func8,Tryz.ntmps8;go_wp2_with fail;have R9:=Cls.new w #[.int .i64 0,.bool false,.slice none 0 0,.int .i64 0,.int .i64 2,.int .i64 800] 34;have H9:Below w.heap.size w (w.alloc (.cells #[.int .i64 0,.bool false,.slice none 0 0,.int .i64 0,.int .i64 2,.int .i64 800] 34)):=(Below.refl _ _).alloc (Nat.le_refl _) _;generalize w.alloc (.cells #[.int .i64 0,.bool false,.slice none 0 0,.int .i64 0,.int .i64 2,.int .i64 800] 34)=w9 at R9 H9|-;have z0:=R9.cell 0 (x:=.int .i64 0) rfl;have z1:=R9.cell 1 (x:=.bool false) rfl;have z2:=R9.cell 2 (x:=.slice none 0 0) rfl;have z3:=R9.cell 3 (x:=.int .i64 0) rfl;have z4:=R9.cell 4 (x:=.int .i64 2) rfl;have z5:=R9.cell 5 (x:=.int .i64 800) rfl;refine bodyPost_ret (v:=.agg #[.int .i64 0,.bool false,.slice none 0 0,.int .i64 0,.int .i64 2,.int .i64 800]) (by simp[results,Tryz.results8,go_sem,z0,z1,z2,z3,z4,z5]) rfl ?_;rw[HO.out,aC,if_pos (by omega)];exact⟨none,0,rfl,World.ownsRow_nil _ _ _ _,H9⟩
 . have h8':¬(800:Int)<(n:Int):=by omega
   go_enter Tryz.func8,Tryz.ntmps8;go_wp2_with fail;have b1:Below w.heap.size w (w.alloc (.cells zSc 34)):=(Below.refl _ _).alloc (Nat.le_refl _) _;have R1:Cls (w.alloc (.cells zSc 34)) w.heap.size zSc 34:=Cls.new _ _ _;have hr1:=hr.below b1;generalize w.alloc (.cells zSc 34)=w1 at b1 R1 hr1|-;refine(qI ao n c bs w1 hl (by omega) hr1 _ rfl).mono ?_;intro e w2 hW
   have hsc:o=match(match M.whole bs with|some d=>Sum.inl d|none=>Sum.inr (M.jA bs bs.length):M.Dec⊕Nat)with| .inl d=>(d,0,0)| .inr k=>(⟨0,false,[],0⟩,1,(k:Int)):=by rw[HO.out,aC,if_neg (by omega)];rfl
   clear HO
   cases hwv:M.whole bs with
   |some d=>
    rw[hwv]at hW hsc;obtain⟨ra3,rc3,rfl,own2,b2⟩:=hW;have R2:=R1.below b2;have B2:=b1.trans (b2.mono b1.size);have HS:=hid hsc;have ltR:w.heap.size<w1.heap.size:=R1.lt;have box:Array Value:=#[.int .i64 d.kind,.bool d.neg,.slice ra3 d.digits.length rc3,.int .i64 d.exp];have bA:Below w2.heap.size w2 (w2.alloc (.cells #[.int .i64 d.kind,.bool d.neg,.slice ra3 d.digits.length rc3,.int .i64 d.exp] 32)):=(Below.refl _ _).alloc (Nat.le_refl _) _;have RA:=R2.below bA;have BA:=B2.trans (bA.mono B2.size);have OA:=jJ own2 bA;have y0:=RA.cell 0 (x:=.int .i64 0) rfl;have y1:=RA.cell 1 (x:=.bool false) rfl;have y2:=RA.cell 2 (x:=.slice none 0 0) rfl;have y3:=RA.cell 3 (x:=.int .i64 0) rfl;have y4:=RA.cell 4 (x:=.int .i64 0) rfl;have y5:=RA.cell 5 (x:=.int .i64 0) rfl;have f0:=RA.frozen 0;have f1:=RA.frozen 1;have f2:=RA.frozen 2;have f3:=RA.frozen 3;have f4:=RA.frozen 4;have f5:=RA.frozen 5;have RAH:=hid RA;have BAH:=hid BA;have OWH:=hid OA;clear RA BA OA R1 R2 B2 own2 hwv hsc bA hr1 b2 box;unfold rR;go_wp2_with fail;have O9:=(bM (bM (bM (bM (bM (bM OWH.out ⟨w.heap.size,0,none⟩ ltR (.int .i64 d.kind)) ⟨w.heap.size,1,none⟩ ltR (.bool d.neg)) ⟨w.heap.size,2,none⟩ ltR (.slice ra3 d.digits.length rc3)) ⟨w.heap.size,3,none⟩ ltR (.int .i64 d.exp)) ⟨w.heap.size,4,none⟩ ltR (.int .i64 0)) ⟨w.heap.size,5,none⟩ ltR (.int .i64 0));generalize(w2.alloc (.cells #[.int .i64 d.kind,.bool d.neg,.slice ra3 d.digits.length rc3,.int .i64 d.exp] 32))=wA at*;have R9:=MH RAH.out rfl (.int .i64 d.kind) (.bool d.neg) (.slice ra3 d.digits.length rc3) (.int .i64 d.exp) (.int .i64 0) (.int .i64 0);have H9:=vU BAH.out (.int .i64 d.kind) (.bool d.neg) (.slice ra3 d.digits.length rc3) (.int .i64 d.exp) (.int .i64 0) (.int .i64 0);generalize((((((wA.setCell ⟨w.heap.size,0,none⟩ (.int .i64 d.kind)).setCell ⟨w.heap.size,1,none⟩ (.bool d.neg)).setCell ⟨w.heap.size,2,none⟩ (.slice ra3 d.digits.length rc3)).setCell ⟨w.heap.size,3,none⟩ (.int .i64 d.exp)).setCell ⟨w.heap.size,4,none⟩ (.int .i64 0)).setCell ⟨w.heap.size,5,none⟩ (.int .i64 0))=w9 at R9 H9 O9|-;have z0:=R9.cell 0 (x:=.int .i64 d.kind) rfl;have z1:=R9.cell 1 (x:=.bool d.neg) rfl;have z2:=R9.cell 2 (x:=.slice ra3 d.digits.length rc3) rfl;have z3:=R9.cell 3 (x:=.int .i64 d.exp) rfl;have z4:=R9.cell 4 (x:=.int .i64 0) rfl;have z5:=R9.cell 5 (x:=.int .i64 0) rfl;refine bodyPost_ret (v:=.agg #[.int .i64 d.kind,.bool d.neg,.slice ra3 d.digits.length rc3,.int .i64 d.exp,.int .i64 0,.int .i64 0]) (by simp[results,Tryz.results8,go_sem,z0,z1,z2,z3,z4,z5]) rfl ?_;rw[HS.out];exact⟨ra3,rc3,rfl,gW O9 b1.size,H9⟩
   |none=>
    rw[hwv]at hW hsc;obtain⟨rfl,b2⟩:=hW;have R2:=R1.below b2;have B2:=b1.trans (b2.mono b1.size);have HS:=hid hsc;have RH:=hid R2;have BH:=hid B2;have r2:=hr1.below b2;clear hwv hsc R1 R2 B2 b2 hr1;unfold rR;have bz:Below w2.heap.size w2 (w2.alloc (.cells eR 32)):=(Below.refl _ _).alloc (Nat.le_refl _) _;have RZ:=hid (RH.out.below bz);have BZ:=hid (BH.out.trans (bz.mono BH.out.size));have rZ:=r2.below bz;clear bz RH BH r2;go_upto_block 0 with fail;generalize(w2.alloc (.cells eR 32))=w3 at*
    go_cut[5] (fun v wr=>v=.int .i64 ((M.jA bs bs.length:Nat):Int)/\Cls wr w.heap.size zSc 34/\Below w.heap.size w wr)
    case first=>
     go_wp2_with fail
     go_loopw [5] (fun v wr=>∃k:Nat,k<=n/\v=.int .i64 (k:Int)/\M.jA bs bs.length=M.jA bs k/\Cls wr w.heap.size zSc 34/\Below w.heap.size w wr/\RdB wr ao bs) (fun v _=>(intOf v).toNat)
     case atStart=>exact⟨n,Nat.le_refl _,rfl,by rw[hl],RZ.out,BZ.out,rZ⟩
     case round=>
      rename World=>wr
      obtain⟨k,hk,rfl,g1,g2,g3,g4⟩:=hrel;have G1:=hid g1;have G2:=hid g2;have G3:=hid g3;clear g1 g2 g3
      cases k with
      |zero=>
       go_wp2_with fail;go_meet
       case rel=>rw[G1.out];exact⟨rfl,G2.out,G3.out⟩
      |succ k=>
       have hpos:(0:Int)<((k+1:Nat):Int):=by omega
       have hkn:((k+1:Nat):Int)<=(n:Int):=by omega
       have hkc:k+1<=c:=by omega
       have e1:(bs.take (k+1)).length=k+1:=by rw[List.length_take];omega
       have hm1:((k+1:Nat):Int)-1=(k:Int):=by omega
       obtain⟨bb,hbb⟩:∃bb,bb=M.eT (bs.take (k+1)):=⟨_,rfl⟩;have kB:=vW ao (k+1) c (bs.take (k+1)) wr e1 (by omega) hno (g4.front (k+1)) bb hbb;have halo:M.jA bs (k+1)=if bb then k+1 else M.jA bs k:=by rw[hbb];rfl
       have HA:=hid halo;have G4:=hid g4;clear hbb halo g4 e1;go_wp2_with fail;refine kB.mono ?_;rintro e wB ⟨rfl,b5⟩;have R5:=hid (G2.out.below b5);have B5:=hid (G3.out.trans (b5.mono G3.out.size));have r5:=hid (G4.out.below b5);clear kB b5
       cases bb with
       |true=>
        go_wp2_with fail;go_meet
        case rel=>rw[G1.out,HA.out];exact⟨rfl,R5.out,B5.out⟩
       |false=>
        go_wp2_with fail;go_roundw
        case rel=>exact⟨k,by omega,by go_num,by rw[G1.out,HA.out];rfl,R5.out,B5.out,r5.out⟩
        case measure=>simp[intOf]
    case rest=>
     rename World=>wE
     obtain⟨rfl,RE,BE⟩:=hcut;generalize M.jA bs bs.length=k at*;have y0:=RE.cell 0 (x:=.int .i64 0) rfl;have y1:=RE.cell 1 (x:=.bool false) rfl;have y2:=RE.cell 2 (x:=.slice none 0 0) rfl;have y3:=RE.cell 3 (x:=.int .i64 0) rfl;have y4:=RE.cell 4 (x:=.int .i64 0) rfl;have y5:=RE.cell 5 (x:=.int .i64 0) rfl;have f0:=RE.frozen 0;have f1:=RE.frozen 1;have f2:=RE.frozen 2;have f3:=RE.frozen 3;have f4:=RE.frozen 4;have f5:=RE.frozen 5;have REH:=hid RE;have BEH:=hid BE;clear RE BE;go_wp2_with fail;have RE:=REH.out;have BE:=BEH.out;clear y0 y1 y2 y3 y4 y5 f0 f1 f2 f3 f4 f5;have R9:=MH RE rfl (.int .i64 0) (.bool false) (.slice none 0 0) (.int .i64 0) (.int .i64 1) (.int .i64 ((k:Nat):Int));have H9:=vU BE (.int .i64 0) (.bool false) (.slice none 0 0) (.int .i64 0) (.int .i64 1) (.int .i64 ((k:Nat):Int));generalize((((((wE.setCell ⟨w.heap.size,0,none⟩ (.int .i64 0)).setCell ⟨w.heap.size,1,none⟩ (.bool false)).setCell ⟨w.heap.size,2,none⟩ (.slice none 0 0)).setCell ⟨w.heap.size,3,none⟩ (.int .i64 0)).setCell ⟨w.heap.size,4,none⟩ (.int .i64 1)).setCell ⟨w.heap.size,5,none⟩ (.int .i64 ((k:Nat):Int)))=w9 at R9 H9|-;have z0:=R9.cell 0 (x:=.int .i64 0) rfl;have z1:=R9.cell 1 (x:=.bool false) rfl;have z2:=R9.cell 2 (x:=.slice none 0 0) rfl;have z3:=R9.cell 3 (x:=.int .i64 0) rfl;have z4:=R9.cell 4 (x:=.int .i64 1) rfl;have z5:=R9.cell 5 (x:=.int .i64 ((k:Nat):Int)) rfl;refine bodyPost_ret (v:=.agg #[.int .i64 0,.bool false,.slice none 0 0,.int .i64 0,.int .i64 1,.int .i64 ((k:Nat):Int)]) (by simp[results,Tryz.results8,go_sem,z0,z1,z2,z3,z4,z5]) rfl ?_;rw[HS.out];exact⟨none,0,rfl,World.ownsRow_nil _ _ _ _,H9⟩

theorem OJ (k:Int)(u:World):(Instr.typeAssert (.iface 136 (.agg #[.int .i64 k])) 20 136 true).run Tryz.prog u=.ok (.tuple #[.agg #[.int .i64 k],.bool true]) u:=by kernel_rfl

theorem QX (u:World):(Instr.typeAssert .nilIface 20 136 true).run Tryz.prog u=.ok (.tuple #[.agg #[.int .i64 0],.bool false]) u:=by kernel_rfl

theorem qO (g:Nat)(k:Nat)(w:World)(x0 x1 x2 x3 x4 x5:Value)(hC:Cls w g #[x0,x1,x2,x3,x4,x5] 34):
 CallsD Tryz.prog 91 #[.pointer (some ⟨g,0,none⟩)] (.panicking ({ v:=.iface 136 (.agg #[.int .i64 (k:Int)]),recovered:=false }::[])) w fun e u' w'=>
  e=.returned (.tuple #[])/\u'=.panicking ({ v:=.iface 136 (.agg #[.int .i64 (k:Int)]),recovered:=true }::[])/\Cls w' g #[.int .i64 0,.bool false,.slice none 0 0,.int .i64 0,.int .i64 1,.int .i64 (k:Int)] 34/\Below g w w':=by
 refine callsD_of_wpS Tryz.func91 rfl fun c₀ cs hu=>?_
 apply wpS_seq
 apply wpS_region
 simp[wpOpsS,go_sem,recoverD,hu,Tryz.ntmps91,Exit.thenS,OJ]
 have b1:Below w.heap.size w (w.alloc (.cells #[.int .i64 (k:Int)] 136)):=(Below.refl _ _).alloc (Nat.le_refl _) _;have F1:Cls (w.alloc (.cells #[.int .i64 (k:Int)] 136)) w.heap.size #[.int .i64 (k:Int)] 136:=Cls.new _ _ _;have C1:=hC.below b1;have hlt:=hC.lt;generalize w.alloc (.cells #[.int .i64 (k:Int)] 136)=w1 at*;have d0:=F1.cell 0 (x:=.int .i64 (k:Int)) rfl;have c0:=C1.cell 0 (x:=x0) rfl;have c1:=C1.cell 1 (x:=x1) rfl;have c2:=C1.cell 2 (x:=x2) rfl;have c3:=C1.cell 3 (x:=x3) rfl;have c4:=C1.cell 4 (x:=x4) rfl;have c5:=C1.cell 5 (x:=x5) rfl;have f0:=C1.frozen 0;have f1:=C1.frozen 1;have f2:=C1.frozen 2;have f3:=C1.frozen 3;have f4:=C1.frozen 4;have f5:=C1.frozen 5
 apply wpS_seq
 apply wpS_region
 simp[wpOpsS,go_sem,Exit.thenS]
 refine wpS_cond (t:=true) (by simp[Act.eval,Array.replicate]) ?_;simp only[if_true]
 apply wpS_region
 have B9:Below g w ((((((w1.setCell ⟨g,0,none⟩ (.int .i64 0)).setCell ⟨g,1,none⟩ (.bool false)).setCell ⟨g,2,none⟩ (.slice none 0 0)).setCell ⟨g,3,none⟩ (.int .i64 0)).setCell ⟨g,4,none⟩ (.int .i64 1)).setCell ⟨g,5,none⟩ (.int .i64 (k:Int))):=vU (b1.mono (by omega)) _ _ _ _ _ _;have R9:=MH C1 rfl (.int .i64 0) (.bool false) (.slice none 0 0) (.int .i64 0) (.int .i64 1) (.int .i64 (k:Int))
 simp[wpOpsS,go_sem,d0,c0,c1,c2,c3,c4,c5,f0,f1,f2,f3,f4,f5,bodyPostS,results,Tryz.results91]
 exact⟨R9,B9⟩

theorem zX (g:Nat)(w:World):
 CallsD Tryz.prog 91 #[.pointer (some ⟨g,0,none⟩)] .returning w fun e u' w'=>e=.returned (.tuple #[])/\u'=.returning/\Below w.heap.size w w':=by
 refine callsD_of_wpS Tryz.func91 rfl fun c₀ cs hu=>?_
 apply wpS_seq
 apply wpS_region
 simp[wpOpsS,go_sem,recoverD,hu,Tryz.ntmps91,Exit.thenS,QX]
 have b1:Below w.heap.size w (w.alloc (.cells #[.int .i64 0] 136)):=(Below.refl _ _).alloc (Nat.le_refl _) _;generalize w.alloc (.cells #[.int .i64 0] 136)=w1 at*
 apply wpS_seq
 apply wpS_region
 simp[wpOpsS,go_sem,Exit.thenS]
 refine wpS_cond (t:=false) (by simp[Act.eval,Array.replicate]) ?_;simp only[Bool.false_eq_true,if_false];refine wpS_of_wp (wp_skip ?_);cases c₀
 simp_all [bodyPostS,results,Tryz.results91]

theorem uL (ao:Option Addr)(n c:Nat)(bs:List Nat)(w:World)(hl:bs.length=n)(hr:RdB w ao bs)(hF:Fol w)(hWd:Wds w)(o:M.Dec×Int×Int)(ho:o=aC bs):
 Calls Tryz.prog 47 #[.slice ao n c] w fun e w'=>∃v,e=.returned (scV o v)/\OwnV w' w.heap.size v o.1.digits/\Below w.heap.size w w':=by
 have hmf:∀(fn:Fn)(first cap:Array Value)(w:World),(Instr.makeFunc fn first cap).run Tryz.prog w=.ok (.func fn first cap) w:=fun _ _ _ _=>rfl
 have HO:=hid ho;clear ho
 by_cases h8:800<n
 . have h8':(800:Int)<(n:Int):=by omega
   go_enter_defers Tryz.func47,Tryz.ntmps47
   go_wp2_with fail;have R9:=Cls.new w #[.int .i64 0,.bool false,.slice none 0 0,.int .i64 0,.int .i64 2,.int .i64 800] 34;have H9:Below w.heap.size w (w.alloc (.cells #[.int .i64 0,.bool false,.slice none 0 0,.int .i64 0,.int .i64 2,.int .i64 800] 34)):=(Below.refl _ _).alloc (Nat.le_refl _) _;generalize w.alloc (.cells #[.int .i64 0,.bool false,.slice none 0 0,.int .i64 0,.int .i64 2,.int .i64 800] 34)=w9 at R9 H9|-;have z0:=R9.cell 0 (x:=.int .i64 0) rfl;have z1:=R9.cell 1 (x:=.bool false) rfl;have z2:=R9.cell 2 (x:=.slice none 0 0) rfl;have z3:=R9.cell 3 (x:=.int .i64 0) rfl;have z4:=R9.cell 4 (x:=.int .i64 2) rfl;have z5:=R9.cell 5 (x:=.int .i64 800) rfl;have hoo:o=(⟨0,false,[],0⟩,2,800):=by rw[HO.out,aC,if_pos (by omega)]
   simp[bodyPostD,Leaves,results,Tryz.results47,go_sem,z0,z1,z2,z3,z4,z5]
   rw[hoo];exact⟨.slice none 0 0,rfl,OwnV.nil _ _,H9⟩
 . have h8':¬(800:Int)<(n:Int):=by omega
   go_enter_defers Tryz.func47,Tryz.ntmps47
   have b1:Below w.heap.size w (w.alloc (.cells zSc 34)):=(Below.refl _ _).alloc (Nat.le_refl _) _;have R1:Cls (w.alloc (.cells zSc 34)) w.heap.size zSc 34:=Cls.new _ _ _;have hcv:=yQ ao n c bs (w.alloc (.cells zSc 34)) hl (hr.below b1);have hsl:(zV bs).size<=800:=by rw[<-jC,oF bs hr.1,hl];omega
   have kS:=LA (zV bs) (w.alloc (.cells zSc 34)) hsl (hF.below b1) (hWd.below b1) _ rfl;rw[oF bs hr.1]at kS
   have hsc:aC bs=match M.iP bs with| .inl d=>(d,0,0)| .inr k=>(⟨0,false,[],0⟩,1,(k:Int)):=by
    rw[aC,if_neg (by omega),M.LY]
    all_goals(cases M.vG bs<;>rfl)
   rw[hsc]at HO;clear hsc;go_wp2_with fail;refine kS.mono ?_;intro e w2 hP;clear kS hcv;generalize w.alloc (.cells zSc 34)=w1 at*;have ltR:=R1.lt
   cases hI:M.iP bs with
   |inl d=>
    rw[hI]at hP HO;obtain⟨xv,rfl,hV,b2⟩:=hP;obtain⟨xa,xc,rfl,hv2⟩:=hV;have V2:OwnV w2 w1.heap.size (.slice xa d.digits.length xc) d.digits:=⟨xa,xc,rfl,hv2⟩;have R2:=R1.below b2;have B2:=b1.trans (b2.mono b1.size);have y0:=R2.cell 0 (x:=.int .i64 0) rfl;have y1:=R2.cell 1 (x:=.bool false) rfl;have y2:=R2.cell 2 (x:=.slice none 0 0) rfl;have y3:=R2.cell 3 (x:=.int .i64 0) rfl;have y4:=R2.cell 4 (x:=.int .i64 0) rfl;have y5:=R2.cell 5 (x:=.int .i64 0) rfl;have f0:=R2.frozen 0;have f1:=R2.frozen 1;have f2:=R2.frozen 2;have f3:=R2.frozen 3;have f4:=R2.frozen 4;have f5:=R2.frozen 5;have HV:=hid V2;have HR2:=hid R2;have HB2:=hid B2;clear V2 R2 B2 hv2 b2 hI R1;unfold rR;go_wp2_with fail;have R9:=MH HR2.out rfl (.int .i64 d.kind) (.bool d.neg) (.slice xa d.digits.length xc) (.int .i64 d.exp) (.int .i64 0) (.int .i64 0);have H9:=vU HB2.out (.int .i64 d.kind) (.bool d.neg) (.slice xa d.digits.length xc) (.int .i64 d.exp) (.int .i64 0) (.int .i64 0);have O9:=((((((HV.out.far ⟨w.heap.size,0,none⟩ ltR (.int .i64 d.kind)).far ⟨w.heap.size,1,none⟩ ltR (.bool d.neg)).far ⟨w.heap.size,2,none⟩ ltR (.slice xa d.digits.length xc)).far ⟨w.heap.size,3,none⟩ ltR (.int .i64 d.exp)).far ⟨w.heap.size,4,none⟩ ltR (.int .i64 0)).far ⟨w.heap.size,5,none⟩ ltR (.int .i64 0));generalize((((((w2.setCell ⟨w.heap.size,0,none⟩ (.int .i64 d.kind)).setCell ⟨w.heap.size,1,none⟩ (.bool d.neg)).setCell ⟨w.heap.size,2,none⟩ (.slice xa d.digits.length xc)).setCell ⟨w.heap.size,3,none⟩ (.int .i64 d.exp)).setCell ⟨w.heap.size,4,none⟩ (.int .i64 0)).setCell ⟨w.heap.size,5,none⟩ (.int .i64 0))=w9 at R9 H9 O9|-;refine leaves_cons (f:= 91) (args:=#[.pointer (some ⟨w.heap.size,0,none⟩)]) (by simp) (by simp[go_sem]) ?_;refine(zX w.heap.size w9).mono ?_;rintro e u' w10 ⟨rfl,rfl,b5⟩;have R10:=R9.below b5;have H10:=H9.trans (b5.mono H9.size);have O10:=(O9.below b5).low (Nat.le_of_lt ltR);have z0:=R10.cell 0 (x:=.int .i64 d.kind) rfl;have z1:=R10.cell 1 (x:=.bool d.neg) rfl;have z2:=R10.cell 2 (x:=.slice xa d.digits.length xc) rfl;have z3:=R10.cell 3 (x:=.int .i64 d.exp) rfl;have z4:=R10.cell 4 (x:=.int .i64 0) rfl;have z5:=R10.cell 5 (x:=.int .i64 0) rfl
    simp[Leaves,settle,results,Tryz.results47,go_sem,z0,z1,z2,z3,z4,z5]
    rw[HO.out];exact⟨_,rfl,O10,H10⟩
   |inr k=>
    rw[hI]at hP HO;obtain⟨rfl,b2⟩:=hP;have R2:=R1.below b2;have B2:=b1.trans (b2.mono b1.size);clear hI R1 b2
    dsimp only
    refine leaves_cons (f:= 91) (args:=#[.pointer (some ⟨w.heap.size,0,none⟩)]) (by simp) (by simp[go_sem]) ?_;refine(qO w.heap.size k w2 _ _ _ _ _ _ R2).mono ?_;rintro e u' w10 ⟨rfl,rfl,R10,b5⟩;have H10:=B2.trans b5;have z0:=R10.cell 0 (x:=.int .i64 0) rfl;have z1:=R10.cell 1 (x:=.bool false) rfl;have z2:=R10.cell 2 (x:=.slice none 0 0) rfl;have z3:=R10.cell 3 (x:=.int .i64 0) rfl;have z4:=R10.cell 4 (x:=.int .i64 1) rfl;have z5:=R10.cell 5 (x:=.int .i64 (k:Int)) rfl
    simp[Leaves,settle,results,Tryz.results47,go_sem,z0,z1,z2,z3,z4,z5]
    rw[HO.out];exact⟨.slice none 0 0,rfl,OwnV.nil _ _,H10⟩

end Go.Proofs.YtfdgkleoaehjaaaGreatDoor
namespace Go.Proofs.YtfdgkleoaehjaaaGreatDoor.M
set_option linter.unusedVariables false
set_option maxRecDepth 100000

def dec (bs:List Nat):Nat:=bs.foldl (fun v c=>v*10+(c-48)) 0

theorem xX (bs:List Nat)(c:Nat):dec (bs++[c])=dec bs*10+(c-48):=by simp[dec]

theorem yY (bs:List Nat):∀v:Nat,bs.foldl (fun v c=>v*10+(c-48)) v=v*10^bs.length+dec bs:=by
 induction bs with
 |nil=>intro v;simp[dec]
 |cons c bs ih=>
  intro v
  have e:dec (c::bs)=(c-48)*10^bs.length+dec bs:=by
   have h:=ih (0*10+(c-48));rw[Nat.zero_mul,Nat.zero_add]at h;unfold dec at h|-;rw[List.foldl_cons,Nat.zero_mul,Nat.zero_add];exact h
  rw[List.foldl_cons,ih,e,List.length_cons,Nat.pow_succ,Nat.add_mul,Nat.mul_assoc,Nat.mul_comm 10];omega

theorem tL (c:Nat)(bs:List Nat):dec (c::bs)=(c-48)*10^bs.length+dec bs:=by
 have:=yY bs (0*10+(c-48));rw[Nat.zero_mul,Nat.zero_add]at this;unfold dec at this|-;rw[List.foldl_cons,Nat.zero_mul,Nat.zero_add];exact this

theorem sY (xs ys:List Nat):dec (xs++ys)=dec xs*10^ys.length+dec ys:=by
 have:=yY ys (dec xs);rw[<-this];unfold dec;rw[List.foldl_append]

def Dig (bs:List Nat):Prop:=∀c∈bs,48<=c/\c<=57

theorem Dig.get {bs:List Nat}(h:Dig bs)(i:Nat)(hi:i<bs.length):48<=bs.getD i 0/\bs.getD i 0<=57:=by
 rw[List.getD_eq_getElem?_getD,List.getElem?_eq_getElem hi];exact h _ (List.getElem_mem hi)

theorem iU (bs:List Nat)(h:Dig bs):dec bs<10^bs.length:=by
 induction bs with
 |nil=>simp[dec]
 |cons c bs ih=>
  have h1:=ih (fun x hx=>h x (List.mem_cons_of_mem _ hx))
  have h2:=h c (by simp);rw[tL,List.length_cons,Nat.pow_succ];have h3:(c-48)*10^bs.length<=9*10^bs.length:=Nat.mul_le_mul_right _ (by omega);omega

theorem nU (bs:List Nat)(i t:Nat)(h:i+t<bs.length):dec (seg bs i (t+1))=dec (seg bs i t)*10+(bs.getD (i+t) 0-48):=by
 have e:seg bs i (t+1)=seg bs i t++[bs.getD (i+t) 0]:=by
  unfold seg;rw[mJ _ _ (by simp;omega)]
  congr 2
  simp[List.getD_eq_getElem?_getD]
 rw[e,xX]

theorem nX (bs:List Nat)(i t:Nat)(h:i+t<=bs.length):dec (bs.take (i+t))=dec (bs.take i)*10^t+dec (seg bs i t):=by
 have e:bs.take (i+t)=bs.take i++seg bs i t:=by unfold seg;rw[List.take_add]
 rw[e,sY,cZ _ _ _ h]

theorem Dig.seg {bs:List Nat}(h:Dig bs)(i t:Nat):Dig (seg bs i t):=fun c hc=>h c (List.mem_of_mem_drop (List.mem_of_mem_take hc))

end Go.Proofs.YtfdgkleoaehjaaaGreatDoor.M
namespace Go.Proofs.YtfdgkleoaehjaaaGreatDoor
open Go.RowKit
set_option linter.unusedVariables false
set_option maxRecDepth 100000

theorem M.times32 (x y cc:Nat)(hx:x<4294967296)(hy:y<4294967296)(hc:cc<4294967296):y*x+cc<18446744073709551616/\(y*x+cc)/4294967296<4294967296:=by
 have h:y*x<=4294967295*4294967295:=Nat.mul_le_mul (by omega) (by omega)
 constructor<;>omega

theorem M.times32_over {S c c' P C o y x T:Nat}(h:S+c*P=x*T)(hs:o+C*c'=y*x+c):S+P*o+c'*(P*C)=x*(T+P*y):=by
 have e:P*(o+C*c')=P*(y*x+c):=by rw[hs]
 simp only[Nat.mul_add]at e|-;rw[Nat.mul_comm c' (P*C),Nat.mul_assoc];rw[Nat.mul_comm c P]at h;have e2:x*(P*y)=P*(y*x):=by rw[Nat.mul_comm x,Nat.mul_assoc]
 rw[e2];omega

theorem fE (ao:Option Addr)(n c x:Nat)(a:Nat)(w:World)(hl:(D a).length=n)(hn:n<=1048576)(hx:x<4294967296)(hr:Rd w ao (D a)):
 Calls Tryz.prog 54 #[.slice ao n c,.int .u64 (x:Int)] w fun e w'=>Ret w w' e (D (a*x)):=by
 obtain⟨i0,hi,hz0,hz1,hz2⟩:=info_parts Tryz.infoU;have fa:=iD a;go_enter Tryz.func54,Tryz.ntmps54;go_wp2_with fail
 go_loopw [5,6,7] (fun v cy i wr=>∃(k:Nat)(os:List Nat)(cc:Nat),k<=n/\i=.int .i64 k/\cy=.int .u64 cc/\cc<4294967296/\wr.ownsRow w.heap.size 25 1 v k (U os)/\F32 os/\os.length=k/\X os+cc*4294967296^k=x*X ((D a).take k)/\Below w.heap.size w wr) (fun _ _ i _=>n-(intOf i).toNat)
 case atStart=>
  refine⟨0,[],0,by omega,rfl,rfl,by omega,World.ownsRow_nil _ _ _ _,fun x hx=>by simp at hx,rfl,by simp[X,M.val],Below.refl _ _⟩
 case round=>
  obtain⟨k,os,cc,hk,rfl,rfl,hcc,hown,hf,hlen,hv,hbl⟩:=hrel;have HV:=hid hv;clear hv;have HLen:=hid hlen;clear hlen
  by_cases hlt:k<n
  . obtain⟨b2,o2,hbo,hc2⟩:=(hr.below hbl) (by omega);have hck:=hc2 k (by omega);clear hc2;have hy1:=fa.get k;obtain⟨y,hyy⟩:∃y:Nat,y=(D a).getD k 0:=⟨_,rfl⟩;rw[<-hyy]at hck hy1;have HY:=hid hyy;clear hyy;have hlt':(k:Int)<(n:Int):=by omega
    have hbb:=M.times32 x y cc hx hy1 hcc;obtain⟨p,ep⟩:∃p:Nat,p=y*x:=⟨_,rfl⟩;rw[<-ep]at hbb;have wp:=mD y x p ep (by omega);obtain⟨t,et⟩:∃t:Nat,t=p+cc:=⟨_,rfl⟩;rw[<-et]at hbb;have wt:=vN p cc t et (by omega);have htI:(p:Int)+(cc:Int)=(t:Int):=by omega
    have hlow:=oG t (by omega);obtain⟨o,eo⟩:∃o:Nat,o=t%4294967296:=⟨_,rfl⟩;rw[<-eo]at hlow;obtain⟨h,eh⟩:∃h:Nat,h=t/4294967296:=⟨_,rfl⟩;have hhi:(t:Int)/4294967296=(h:Int):=by omega
    have htb:t<18446744073709551616:=hbb.1;have hsum:o+4294967296*h=y*x+cc/\o<4294967296/\h<4294967296:=by rw[<-ep];omega
    have E1:=hid hsum;have E2:=hid hbb;have E3:=hid et;have E4:=hid eo;have E5:=hid eh;have E6:=hid ep;clear hsum hbb et eo eh ep hcc
    go_wp2_with (at_builtin;refine wpList_append_own _ rfl _ _ 56 rfl w.heap.size 25 i0 (.int .u64 0) 1 8 Tryz.underlying56 hi hz0 hz1 hz2 rfl (by decide) _ _ _ rfl (hown.alloc _) ⟨wr.heap.size,0,none⟩ 1 1 (U [o]) rfl rfl ?c1 ?c2 ?c3 ?c4 ?c5 ?_)
    case c1=>
     intro j u hj
     match j,hj with
     |0,hj=>simp[U]at hj;subst hj;simp[Addr.add]
    case c2=>exact i7 _
    case c3=>unfold maxLen;omega
    case c4=>omega
    case c5=>have:=hbl.size;simp;omega
    intro v' w1 hown' hgrow hnn;clear hnn
    have hb1:Below w.heap.size w w1:=(hbl.alloc hbl.size _).grown hgrow (by have:=hbl.size;simp;omega) (fun k' hk'=>(hown.lt k' hk').1)
    clear hgrow;clear hown;go_wp2_with fail;go_roundw
    case rel=>
     have R:∃(k1:Nat)(os1:List Nat)(cc1:Nat),k1<=n/\Value.int .i64 ((k:Int)+1)=.int .i64 k1/\Value.int .u64 (h:Int)=.int .u64 cc1/\cc1<4294967296/\w1.ownsRow w.heap.size 25 1 v' k1 (U os1)/\F32 os1/\os1.length=k1/\X os1+cc1*4294967296^k1=x*X ((D a).take k1)/\Below w.heap.size w w1:=by
      refine⟨k+1,os++[o],h,by omega,by go_num,rfl,E1.out.2.2,?_,?_,by simp[HLen.out],?_,hb1⟩
      . rw[dH];exact hown'
      . intro z hz;rcases List.mem_append.1 hz with hz|hz
        . exact hf z hz
        . simp at hz;have:=E1.out.2.1;omega
      . have e3:=HV.out;unfold X at*;rw[M.aJ,<-HY.out,Nat.pow_succ,M.iA,HLen.out];exact M.times32_over e3 E1.out.1
     first|exact R|((repeat apply Exists.intro);exact⟨R,rfl⟩)|((repeat apply Exists.intro);exact⟨R,by rw[hbo]⟩)
    case measure=>simp[intOf];omega
  . have e:k=n:=by omega
    subst e
    have hv1:X os+cc*4294967296^k=a*x:=by
     have:=HV.out;rw[lZ a k (by omega),Nat.mul_comm x]at this;exact this
    have hlt':¬(k:Int)<(k:Int):=by omega
    clear HV;have HV:=hid hv1;clear hv1;have HLen0:=HLen;go_wp2_with fail
    go_loopw [5,6] (fun v cy wq=>∃(j:Nat)(os:List Nat)(cc:Nat),j<=k+1/\(j=k+1->cc=0)/\cy=.int .u64 cc/\cc<4294967296/\wq.ownsRow w.heap.size 25 1 v j (U os)/\F32 os/\os.length=j/\X os+cc*4294967296^j=a*x/\Below w.heap.size w wq) (fun _ cy _=>(intOf cy).toNat)
    case atStart=>exact⟨k,os,cc,by omega,by omega,rfl,hcc,hown,hf,HLen.out,HV.out,hbl⟩
    case round=>
     clear HV HLen HLen0 hcc hown hf hbl
     rename World=>wq
     obtain⟨j,os2,c2,hj,hj2,rfl,hc2,hown,hf,hlen,hv,hbl⟩:=hrel;have HV:=hid hv;clear hv;have HLen:=hid hlen;clear hlen
     by_cases hc0:0<c2
     . have hc0':(0:Int)<(c2:Int):=by omega
       have hjk:j<=k:=by omega
       have hlow:=oG c2 (by omega);rw[Nat.mod_eq_of_lt hc2]at hlow;have hhi:(c2:Int)/4294967296=((0:Nat):Int):=by omega
       go_wp2_with (at_builtin;refine wpList_append_own _ rfl _ _ 56 rfl w.heap.size 25 i0 (.int .u64 0) 1 8 Tryz.underlying56 hi hz0 hz1 hz2 rfl (by decide) _ _ _ rfl (hown.alloc _) ⟨wq.heap.size,0,none⟩ 1 1 (U [c2]) rfl rfl ?c1 ?c2 ?c3 ?c4 ?c5 ?_)
       case c1=>
        intro j u hj
        match j,hj with
        |0,hj=>simp[U]at hj;subst hj;simp[Addr.add]
       case c2=>exact i7 _
       case c3=>unfold maxLen;omega
       case c4=>omega
       case c5=>have:=hbl.size;simp;omega
       intro v' w1 hown' hgrow hnn;clear hnn
       have hb1:Below w.heap.size w w1:=(hbl.alloc hbl.size _).grown hgrow (by have:=hbl.size;simp;omega) (fun k' hk'=>(hown.lt k' hk').1)
       clear hgrow;clear hown;go_wp2_with fail;go_roundw
       case rel=>
        have R:∃(j1:Nat)(os1:List Nat)(cc1:Nat),j1<=k+1/\(j1=k+1->cc1=0)/\Value.int .u64 ((0:Nat):Int)=.int .u64 cc1/\cc1<4294967296/\w1.ownsRow w.heap.size 25 1 v' j1 (U os1)/\F32 os1/\os1.length=j1/\X os1+cc1*4294967296^j1=a*x/\Below w.heap.size w w1:=by
         refine⟨j+1,os2++[c2],0,by omega,fun _=>rfl,rfl,by omega,?_,?_,by simp[HLen.out],?_,hb1⟩
         . rw[dH];exact hown'
         . intro z hz;rcases List.mem_append.1 hz with hz|hz
           . exact hf z hz
           . simp at hz;omega
         . have e3:=HV.out;unfold X at*;rw[M.iA,HLen.out,Nat.zero_mul,Nat.add_zero,Nat.mul_comm _ c2];exact e3
        first|exact R|((repeat apply Exists.intro);exact⟨R,rfl⟩)
       case measure=>simp[intOf];omega
     . have e0:c2=0:=by omega
       subst e0
       have hfin:X os2=a*x:=by
        have:=HV.out
        rwa[Nat.zero_mul,Nat.add_zero]at this
       have hv:=fF hown;obtain⟨ao1,cap1,hv⟩:=hv;rw[hv];rw[hv]at hown;have hlt':¬(0:Int)<((0:Nat):Int):=by omega
       clear hv;have HF:=hid hfin;clear hfin;go_wp2_with fail;have hrd:=Rd.own hown;refine(bZ 4294967296 (by omega) ao1 _ cap1 os2 _ HLen.out (bF hown) (by omega) hf hrd).mono ?_;have hfin:M.val 4294967296 os2=a*x:=HF.out;rw[hfin];rintro e w1 ⟨ao',cap',rfl,ho,hb⟩;go_wp2_with fail;go_ret;exact⟨ao',cap',rfl,aM ho hbl.size,hbl.trans (hb.mono hbl.size)⟩

theorem MV (bs:List Nat)(h:M.Dig bs):(D (M.dec bs)).length<=bs.length:=
 M.len_of_lt (B:=4294967296) (by omega) _ _ (Nat.lt_of_lt_of_le (M.iU bs h) (Nat.pow_le_pow_left (by omega) _))

theorem nY (ao:Option Addr)(n c:Nat)(bs:List Nat)(w:World)(hl:bs.length=n)(hn:n<=20000)(hd:M.Dig bs)(hr:RdB w ao bs):
 Calls Tryz.prog 20 #[.slice ao n c] w fun e w'=>Ret w w' e (D (M.dec bs)):=by
 go_enter Tryz.func20,Tryz.ntmps20;go_wp2_with fail
 go_loopw [3,4] (fun v i wr=>∃(k:Nat)(oa:Option Addr)(oc:Nat),k<=n/\i=.int .i64 k/\v=.slice oa (D (M.dec (bs.take k))).length oc/\wr.ownsRow w.heap.size 25 1 (.slice oa (D (M.dec (bs.take k))).length oc) (D (M.dec (bs.take k))).length (U (D (M.dec (bs.take k))))/\Below w.heap.size w wr) (fun _ i _=>n-(intOf i).toNat)
 case atStart=>exact⟨0,none,0,by omega,rfl,rfl,World.ownsRow_nil _ _ _ _,Below.refl _ _⟩
 case round=>
  obtain⟨k,oa,oc,hk,rfl,rfl,hown,hbl⟩:=hrel
  by_cases hlt:k<n
  . have hlt':(k:Int)<(n:Int):=by omega
    obtain⟨nd,end_⟩:∃x,x=D (M.dec (bs.take k)):=⟨_,rfl⟩;rw[<-end_]at hown|-;have END:=hid end_;clear end_;have HOWN:=hid hown;clear hown;go_upto_block 2 with fail
    go_cut[4,5,6,7] (fun i x p j wc=>∃t:Nat,1<=t/\t<=9/\k+t<=n/\i=.int .i64 ((k+t:Nat):Int)/\x=.int .u64 ((M.dec (M.seg bs k t):Nat):Int)/\p=.int .u64 ((10^t:Nat):Int)/\(∃jj:Nat,j=.int .i64 (jj:Int))/\wc=wr)
    case first=>
     go_wp2_with fail
     go_loopw [4,5,6,7] (fun i x p j wv=>∃t:Nat,t<=9/\k+t<=n/\i=.int .i64 ((k+t:Nat):Int)/\x=.int .u64 ((M.dec (M.seg bs k t):Nat):Int)/\p=.int .u64 ((10^t:Nat):Int)/\j=.int .i64 (t:Int)/\wv=wr) (fun _ _ _ j _=>9-(intOf j).toNat)
     case atStart=>exact⟨0,by omega,by omega,rfl,by simp[M.seg,M.dec],rfl,rfl,rfl⟩
     case round=>
      rename World=>wv
      obtain⟨t,ht9,htn,rfl,rfl,rfl,rfl,hwv⟩:=hrel;subst hwv;have hxl:=M.iU (M.seg bs k t) (hd.seg k t);rw[M.cZ _ _ _ (by omega)]at hxl;have hp9:10^t<=10^9:=Nat.pow_le_pow_right (by omega) ht9;obtain⟨xv,exv⟩:∃x,x=M.dec (M.seg bs k t):=⟨_,rfl⟩;obtain⟨pv,epv⟩:∃x,x=10^t:=⟨_,rfl⟩;obtain⟨q,eq⟩:∃x,x=k+t:=⟨_,rfl⟩;rw[<-exv,<-epv]at hxl;rw[<-epv]at hp9;rw[<-exv,<-epv,<-eq];have EXV:=hid exv;have EPV:=hid epv;have EQ:=hid eq;clear exv epv eq
      by_cases hj:t<9
      . have hj':(t:Int)<9:=by omega
        by_cases hi:q<n
        . have hi':(q:Int)<(n:Int):=by omega
          obtain⟨b2,o2,hbo,hc2⟩:=(hr.below hbl).2 (by omega);have hck:=hc2 q (by omega);clear hc2;have hcd:=hd.get q (by omega);obtain⟨cv,ecv⟩:∃x,x=bs.getD q 0:=⟨_,rfl⟩;rw[<-ecv]at hck hcd;obtain⟨dv,edv⟩:∃x,x=cv-48:=⟨_,rfl⟩;have hdI:(cv:Int)-48=(dv:Int):=by omega
          have hdb:dv<=9:=by omega
          obtain⟨x2,ex2⟩:∃x,x=xv*10:=⟨_,rfl⟩;have wx2:(xv:Int)*10=(x2:Int):=by omega
          obtain⟨x3,ex3⟩:∃x,x=x2+dv:=⟨_,rfl⟩;have wx3:(x2:Int)+(dv:Int)=(x3:Int):=by omega
          obtain⟨p2,ep2⟩:∃x,x=pv*10:=⟨_,rfl⟩;have wp2:(pv:Int)*10=(p2:Int):=by omega
          have hb2:x2<=10000000000:=by omega
          have hb3:x3<=20000000000:=by omega
          have hb4:p2<=10000000000:=by omega
          have ECV:=hid ecv;have EDV:=hid edv;have EX2:=hid ex2;have EX3:=hid ex3;have EP2:=hid ep2;clear ecv edv ex2 ex3 ep2;go_wp2_with fail;go_roundw
          case rel=>
           refine⟨t+1,by omega,by have:=EQ.out;omega,?_,?_,?_,by go_num,by first|rfl|trivial⟩
           . have:=EQ.out;rw[show((k+(t+1):Nat):Int)=(q:Int)+1 by omega]
           . have h1:=M.nU bs k t (by have:=EQ.out;omega);rw[<-EXV.out,<-EQ.out,<-ECV.out,<-EDV.out,<-EX2.out,<-EX3.out]at h1;rw[h1]
           . rw[Nat.pow_succ,<-EPV.out,<-EP2.out]
          case measure=>simp[intOf];omega
        . have hi':¬(q:Int)<(n:Int):=by omega
          go_wp2_with fail;go_meet
          case rel=>exact⟨t,by have:=EQ.out;omega,ht9,htn,by rw[<-EQ.out],by rw[<-EXV.out],by rw[<-EPV.out],⟨t,rfl⟩,by first|rfl|trivial⟩
      . have hj':¬(t:Int)<9:=by omega
        go_wp2_with fail;go_meet
        case rel=>exact⟨t,by omega,ht9,htn,by rw[<-EQ.out],by rw[<-EXV.out],by rw[<-EPV.out],⟨t,rfl⟩,by first|rfl|trivial⟩
    case rest=>
     obtain⟨t,ht1,ht9,htn,rfl,rfl,rfl,⟨jj,rfl⟩,hwc⟩:=hcut;subst hwc;have hxl:=M.iU (M.seg bs k t) (hd.seg k t);rw[M.cZ _ _ _ (by omega)]at hxl;have hp9:10^t<=10^9:=Nat.pow_le_pow_right (by omega) ht9;have hnum:=M.nX bs k t (by omega)
     have hs:=MV (bs.take k) (fun c hc=>hd c (List.mem_of_mem_take hc))
     have hs2:(D (M.dec (bs.take k)*10^t)).length<=20100:=by
      obtain⟨KK,eKK⟩:∃x,x=20100:=⟨_,rfl⟩;rw[<-eKK];refine M.len_of_lt (B:=4294967296) (by omega) _ _ ?_
      have h1:=M.iU (bs.take k) (fun c hc=>hd c (List.mem_of_mem_take hc))
      rw[show(bs.take k).length=k by simp;omega]at h1;have h2:M.dec (bs.take k)*10^t<10^k*10^t:=Nat.mul_lt_mul_of_pos_right h1 (Nat.pow_pos (by omega));rw[<-Nat.pow_add]at h2;have h3:10^(k+t)<=4294967296^(k+t):=Nat.pow_le_pow_left (by omega) _;have h4:4294967296^(k+t)<=4294967296^KK:=Nat.pow_le_pow_right (by omega) (by omega);exact Nat.lt_of_lt_of_le h2 (Nat.le_trans h3 h4)
     rw[show(bs.take k).length=k by simp;omega]at hs;obtain⟨xv,exv⟩:∃x,x=M.dec (M.seg bs k t):=⟨_,rfl⟩;obtain⟨pv,epv⟩:∃x,x=10^t:=⟨_,rfl⟩;obtain⟨q,eq⟩:∃x,x=k+t:=⟨_,rfl⟩;obtain⟨nv,env⟩:∃x,x=M.dec (bs.take k):=⟨_,rfl⟩;rw[<-exv,<-epv]at hxl;rw[<-epv]at hp9;rw[<-env,<-epv]at hs2;rw[<-env]at hs;rw[<-exv,<-epv,<-eq,<-env]at hnum;rw[<-exv,<-epv,<-eq];have hnd:nd=D nv:=by rw[END.out,env]
     subst hnd;have hsx:(D xv).length<=20000:=Nat.le_trans (M.len_of_lt (B:=4294967296) (by omega) xv 1 (by omega)) (by omega);have EXV:=hid exv;have EPV:=hid epv;have EQ:=hid eq;have ENV:=hid env;have HN:=hid hnum;clear exv epv eq env hnum;go_wp2_with fail;refine(fE oa _ oc pv nv _ rfl (by omega) (by omega) (Rd.own HOWN.out)).mono ?_;rintro e v1 ⟨a1,c1,rfl,o1,b1'⟩;have b1:=hbl.trans (b1'.mono hbl.size);go_wp2_with fail;refine(aU xv _ (by omega)).mono ?_;rintro e v2 ⟨a2,c2,rfl,o2,b2'⟩;have b2:=b1.trans (b2'.mono b1.size);go_wp2_with fail;refine(cJ a1 a2 _ _ c1 c2 (nv*pv) xv _ rfl rfl (by omega) (by omega) ((Rd.own o1).below b2') (Rd.own o2)).mono ?_;rw[<-HN.out];rintro e v3 ⟨a3,c3,rfl,o3,b3'⟩;have b3:=b2.trans (b3'.mono b2.size);have o3':=aM o3 b2.size;have O3:=hid o3';have B3:=hid b3;clear o1 o2 o3 o3' b1 b2 b3 b1' b2' b3' HOWN;go_wp2_with fail;go_roundw
     case rel=>
      have R:∃(k1:Nat)(oa1:Option Addr)(oc1:Nat),k1<=n/\Value.int .i64 (q:Int)=.int .i64 k1/\Value.slice a3 (D (M.dec (bs.take q))).length c3=.slice oa1 (D (M.dec (bs.take k1))).length oc1/\v3.ownsRow w.heap.size 25 1 (.slice oa1 (D (M.dec (bs.take k1))).length oc1) (D (M.dec (bs.take k1))).length (U (D (M.dec (bs.take k1))))/\Below w.heap.size w v3:=
       ⟨q,a3,c3,by have:=EQ.out;omega,rfl,rfl,O3.out,B3.out⟩
      first|exact R|((repeat apply Exists.intro);exact⟨R,rfl⟩)
     case measure=>simp[intOf];have:=EQ.out;omega
  . have e:k=n:=by omega
    subst e;have hlt':¬(k:Int)<(k:Int):=by omega
    rw[List.take_of_length_le (by omega)]at hown|-;go_wp2_with fail;go_ret;exact⟨oa,oc,rfl,hown,hbl⟩

theorem M.plus_place (x f c p:Nat)(hp:p=x*f)(hx:x<18446744073709551616)(hf:f<18446744073709551616)(hc:c<18446744073709551616):
 ∃o r c':Nat,o=(p%18446744073709551616+c)%18446744073709551616/\r=(if(o:Int)<(c:Int)then 1 else 0)/\c'=p/18446744073709551616+r/\c'<18446744073709551616/\o<18446744073709551616/\o+18446744073709551616*c'=p+c:=by
 have hb:p<=18446744073709551615*18446744073709551615:=by rw[hp];exact Nat.mul_le_mul (by omega) (by omega)
 refine⟨_,_,_,rfl,rfl,rfl,?_,?_,?_⟩
 . split<;>omega
 . omega
 . split<;>omega

theorem M.plus_over {V Z c c' P B x o f e:Nat}(h:V+c*P=f*Z+e)(hs:o+B*c'=x*f+c):V+P*o+c'*(P*B)=f*(Z+P*x)+e:=by
 have e1:P*(o+B*c')=P*(x*f+c):=by rw[hs]
 simp only[Nat.mul_add]at e1|-;rw[Nat.mul_comm c' (P*B),Nat.mul_assoc];rw[Nat.mul_comm c P]at h;have e2:f*(P*x)=P*(x*f):=by rw[Nat.mul_comm f,Nat.mul_assoc]
 rw[e2];omega

end Go.Proofs.YtfdgkleoaehjaaaGreatDoor
