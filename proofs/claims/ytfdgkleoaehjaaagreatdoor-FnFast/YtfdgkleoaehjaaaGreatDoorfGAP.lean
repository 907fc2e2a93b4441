import Derived.Test.YtfdgkleoaehjaaaGreatDoorfGAO
set_option maxHeartbeats 2000000
namespace Go.Proofs.YtfdgkleoaehjaaaGreatDoor
open Go.RowKit
set_option linter.unusedVariables false
set_option maxRecDepth 100000

theorem jW (c:Nat)(hc:c<=2147483647)(w:World)(x:Int)(hx:x=(M.low c:Int)):
 Calls Tryz.prog 144 #[.int .i32 (c:Int)] w fun e w'=>e=.returned (.int .i32 x)/\w'=w:=by
 have HX:=hid hx;clear hx;unfold M.low at HX
 by_cases h1:65<=c
 . have h1':(65:Int)<=(c:Int):=by omega
   by_cases h2:c<=90
   . have h2':(c:Int)<=90:=by omega
     rw[if_pos ⟨h1,h2⟩]at HX;go_enter Tryz.func144,Tryz.ntmps144;go_wp2_with fail;go_ret;exact⟨cG (by rw[HX.out];omega),rfl⟩
   . have h2':¬(c:Int)<=90:=by omega
     rw[if_neg (by omega)]at HX;go_enter Tryz.func144,Tryz.ntmps144;go_wp2_with fail;go_ret;exact⟨cG (by rw[HX.out]),rfl⟩
 . have h1':¬(65:Int)<=(c:Int):=by omega
   rw[if_neg (by omega)]at HX;go_enter Tryz.func144,Tryz.ntmps144;go_wp2_with fail;go_ret;exact⟨cG (by rw[HX.out]),rfl⟩

theorem OT (c:Nat)(hc:c<=2147483647):M.low c<=2147483647:=by unfold M.low;split<;>omega

theorem BF (c:Nat)(hc:c<=2147483647)(w:World)(x:Int)(hx:x=(M.aF c:Int)):
 Calls Tryz.prog 121 #[.int .i32 (c:Int)] w fun e w'=>e=.returned (.int .i64 x)/\w'=w:=by
 have HX:=hid hx;clear hx;have k1:=jW c hc w _ rfl;have hl:=OT c hc;unfold M.aF at HX;generalize M.low c=y at*
 by_cases h1:48<=y/\y<=57
 . have h1':(48:Int)<=(y:Int):=by omega
   have h2':(y:Int)<=57:=by omega
   rw[if_pos h1]at HX;go_enter Tryz.func121,Tryz.ntmps121;go_wp2_with fail;refine k1.mono ?_;rintro e w1 ⟨rfl,rfl⟩;go_wp2_with fail;go_ret;exact⟨cG (by rw[HX.out];rfl),rfl⟩
 . rw[if_neg h1]at HX;have h1':(decide ((48:Int)<=(y:Int)) && decide ((y:Int)<=57))=false:=by simp;omega
   by_cases h2:y=43\/y=45
   . rw[if_pos h2]at HX
     rcases h2 with rfl|rfl<;>
     . go_enter Tryz.func121,Tryz.ntmps121;go_wp2_with fail;refine k1.mono ?_;rintro e w1 ⟨rfl,rfl⟩;go_wp2_with fail;go_ret;exact⟨cG (by rw[HX.out];rfl),rfl⟩
   . rw[if_neg h2]at HX
     by_cases h3:y=46
     . rw[if_pos h3]at HX;subst h3;go_enter Tryz.func121,Tryz.ntmps121;go_wp2_with fail;refine k1.mono ?_;rintro e w1 ⟨rfl,rfl⟩;go_wp2_with fail;go_ret;exact⟨cG (by rw[HX.out];rfl),rfl⟩
     . rw[if_neg h3]at HX
       by_cases h4:y=101
       . rw[if_pos h4]at HX;subst h4;go_enter Tryz.func121,Tryz.ntmps121;go_wp2_with fail;refine k1.mono ?_;rintro e w1 ⟨rfl,rfl⟩;go_wp2_with fail;go_ret;exact⟨cG (by rw[HX.out];rfl),rfl⟩
       . rw[if_neg h4]at HX
         by_cases h5:y=105\/y=110
         . rw[if_pos h5]at HX
           rcases h5 with rfl|rfl<;>
           . go_enter Tryz.func121,Tryz.ntmps121;go_wp2_with fail;refine k1.mono ?_;rintro e w1 ⟨rfl,rfl⟩;go_wp2_with fail;go_ret;exact⟨cG (by rw[HX.out];rfl),rfl⟩
         . rw[if_neg h5]at HX;have a1:((y:Int)==43)=false:=by rw[beq_eq_false_iff_ne];omega
           have a2:((y:Int)==45)=false:=by rw[beq_eq_false_iff_ne];omega
           have a3:((y:Int)==46)=false:=by rw[beq_eq_false_iff_ne];omega
           have a4:((y:Int)==101)=false:=by rw[beq_eq_false_iff_ne];omega
           have a5:((y:Int)==105)=false:=by rw[beq_eq_false_iff_ne];omega
           have a6:((y:Int)==110)=false:=by rw[beq_eq_false_iff_ne];omega
           by_cases h6:48<=y
           . have h6':(48:Int)<=(y:Int):=by omega
             have h7':¬(y:Int)<=57:=by omega
             clear h1';go_enter Tryz.func121,Tryz.ntmps121;go_wp2_with fail;refine k1.mono ?_;rintro e w1 ⟨rfl,rfl⟩;go_wp2_with fail;go_ret;exact⟨cG (by rw[HX.out];rfl),rfl⟩
           . have h6':¬(48:Int)<=(y:Int):=by omega
             clear h1';go_enter Tryz.func121,Tryz.ntmps121;go_wp2_with fail;refine k1.mono ?_;rintro e w1 ⟨rfl,rfl⟩;go_wp2_with fail;go_ret;exact⟨cG (by rw[HX.out];rfl),rfl⟩

def rR (d:M.Dec)(v:Value):Value:=.agg #[.int .i64 d.kind,.bool d.neg,v,.int .i64 d.exp]

def WhR (w w':World)(e:Ending):Option M.Dec->Prop
 |some d=>∃ra rc,e=.returned (.tuple #[rR d (.slice ra d.digits.length rc),.bool true])/\w'.ownsRow w.heap.size 5 1 (.slice ra d.digits.length rc) d.digits.length (UB d.digits)/\Below w.heap.size w w'
 |none=>e=.returned (.tuple #[rR ⟨0,false,[],0⟩ (.slice none 0 0),.bool false])/\Below w.heap.size w w'

theorem RdV.below {w w':World}{v:Value}{bs:List Nat}(h:RdV w v bs)(hb:Below w.heap.size w w'):RdV w' v bs:=by
 obtain⟨a,c,e,hc,hm,hno,hr⟩:=h;exact⟨a,c,e,hc,hm,hno,hr.below hb⟩

theorem rV {w:World}{base n cap:Nat}{ao:Option Addr}{xs:List Value}(h:w.ownsRow base 5 1 (.slice ao n cap) n xs):cap<=9223372036854775807:=by
 rcases h.2 with⟨he,h0⟩|⟨g,cap',cur,he,_,hg,hc,hm,_⟩
 . simp at he;omega
 . simp only[Value.slice.injEq]at he;obtain⟨_,_,rfl⟩:=he;unfold maxLen at hm;omega

theorem pF {w:World}{base n cap:Nat}{ao:Option Addr}{xs:List Value}(h:w.ownsRow base 5 1 (.slice ao n cap) n xs)(e:ao=none):cap=0:=by
 rcases h.2 with⟨he,h0⟩|⟨g,cap',cur,he,_⟩
 . simp at he;omega
 . simp only[Value.slice.injEq]at he;rw[e]at he;cases he.1

theorem RdV.of_own {w:World}{base n c:Nat}{a:Option Addr}{bs:List Nat}(h:w.ownsRow base 5 1 (.slice a n c) n (UB bs))(hb:∀x∈bs,x<256):RdV w (.slice a n c) bs:=by
 have hl:=gE h;subst hl;exact⟨a,c,rfl,jE h,rV h,pF h,RdB.of (RdY.own h) hb⟩

theorem NG {bs:List Nat}(h:∀x∈bs,x<256):∀x∈bs.map M.low,x<256:=by
 intro x hx;obtain⟨y,hy,rfl⟩:=List.mem_map.1 hx;have:=h y hy;unfold M.low
 split<;>omega

theorem tE (v:List Nat):(M.signed v).1.length<=v.length:=by
 cases v with
 |nil=>exact Nat.le_refl _
 |cons c r=>
  by_cases h:c=43\/c=45
  . rw[M.jL r h];simp
  . rw[M.gV r h];simp

theorem DO (k:Nat)(v:List Nat):(M.cut k v).1.length<=v.length/\(M.cut k v).2.1.length<=v.length/\(M.cut k v).1.length+(M.cut k v).2.1.length<=v.length:=by
 induction v with
 |nil=>simp[M.cut]
 |cons c r ih=>unfold M.cut;split<;>simp<;>omega

abbrev eR:Array Value:=#[.int .i64 0,.bool false,.slice none 0 0,.int .i64 0]

def RdX (w:World)(B:Nat)(ao:Option Addr)(bs:List Nat):Prop:=
 (∀x∈bs,x<256)/\(0<bs.length->∃b off,ao=some ⟨b,off,none⟩/\B<=b/\∀i,i<bs.length->w.cell? ⟨b,off+i,none⟩=some (.int .u8 ((bs.getD i 0:Nat):Int)))

theorem RdX.rd {w:World}{B:Nat}{ao:Option Addr}{bs:List Nat}(h:RdX w B ao bs):RdB w ao bs:=
 ⟨h.1,fun hp=>by obtain⟨b,off,e,_,hc⟩:=h.2 hp;exact⟨b,off,e,hc⟩⟩

theorem RdX.below {w w':World}{B:Nat}{ao:Option Addr}{bs:List Nat}(h:RdX w B ao bs)(hb:Below w.heap.size w w'):RdX w' B ao bs:=by
 refine⟨h.1,fun hp=>?_⟩
 obtain⟨b,off,e,hB,hc⟩:=h.2 hp
 exact⟨b,off,e,hB,fun i hi=>(hb.cell (p:=⟨b,off+i,none⟩) (World.block_lt_of_cell? w _ (hc i hi))).trans (hc i hi)⟩

theorem JQ (w:World)(p:Addr)(b o:Nat)(x:Value)(h:p.block≠b):(w.setCell p x).cell? ⟨b,o,none⟩=w.cell? ⟨b,o,none⟩:=by
 have e:=Below.heap_setCell w p x b (fun e=>h e.symm)
 unfold World.cell?;simp only[e]

theorem RdX.far {w:World}{B:Nat}{ao:Option Addr}{bs:List Nat}(h:RdX w B ao bs)(p:Addr)(hp:p.block<B)(x:Value):RdX (w.setCell p x) B ao bs:=by
 refine⟨h.1,fun hl=>?_⟩
 obtain⟨b,off,e,hB,hc⟩:=h.2 hl
 exact⟨b,off,e,hB,fun i hi=>by rw[JQ w p b (off+i) x (by omega)];exact hc i hi⟩

theorem RdX.of_own {w:World}{B n c:Nat}{a:Option Addr}{bs:List Nat}(h:w.ownsRow B 5 1 (.slice a n c) n (UB bs))(hb:∀x∈bs,x<256):RdX w B a bs:=by
 refine⟨hb,fun hp=>?_⟩
 have hl:=gE h;obtain⟨g,hg,hB⟩:=DT h (by omega);obtain⟨b,off,e,hc⟩:=RdY.own h hp;rw[hg]at e;cases e;exact⟨g,0,hg,hB,hc⟩

theorem RdX.tail1 {w:World}{B b off c:Nat}{x:Nat}{r:List Nat}(h:RdX w B (some ⟨b,off,none⟩) (x::r))(hc:r.length+1<=c):RdX w B (if c=1 then some ⟨b,off,none⟩else some ⟨b,off+1,none⟩) r:=by
 refine⟨fun y hy=>h.1 y (List.mem_cons_of_mem _ hy),fun hp=>?_⟩
 obtain⟨b',off',e,hB,hcell⟩:=h.2 (by simp);cases e;rw[if_neg (by omega)]
 refine⟨b,off+1,rfl,hB,fun i hi=>?_⟩
 have:=hcell (i+1) (by simp;omega);rw[show off+1+i=off+(i+1) by omega,this]
 rfl

theorem RdX.front1 {w:World}{B:Nat}{a:Option Addr}{x:Nat}{r:List Nat}(h:RdX w B a (r++[x])):RdX w B a r:=by
 refine⟨fun y hy=>h.1 y (List.mem_append_left _ hy),fun hp=>?_⟩
 obtain⟨b,off,e,hB,hc⟩:=h.2 (by simp)
 refine⟨b,off,e,hB,fun i hi=>?_⟩
 rw[hc i (by simp;omega)]
 simp[List.getD_eq_getElem?_getD,List.getElem?_append_left hi]

theorem yU (r:List Nat):M.aT (48::r)=M.aT r:=by simp[M.aT]

theorem zI {x:Nat}(r:List Nat)(h:x≠48):M.aT (x::r)=x::r:=by simp[M.aT,h]

theorem yC (r:List Nat):M.cL (r++[48])=M.cL r:=by simp[M.cL]

theorem x8 {x:Nat}(r:List Nat)(h:x≠48):M.cL (r++[x])=r++[x]:=by simp[M.cL,h]

theorem y9 (zs:List Nat):zs=[]\/ ∃q x,zs=q++[x]:=by
 rcases List.eq_nil_or_concat zs with h|⟨q,x,h⟩
 . exact .inl h
 . exact .inr ⟨q,x,by rw[h,List.concat_eq_append]⟩

theorem bM {w:World}{base n:Nat}{v:Value}{xs:List Value}(h:w.ownsRow base 5 1 v n xs)(p:Addr)(hp:p.block<base)(x:Value):(w.setCell p x).ownsRow base 5 1 v n xs:=by
 refine⟨h.1,?_⟩;rcases h.2 with k|⟨g,cap,cur,e,hb,hg,r⟩
 . exact .inl k
 . refine .inr ⟨g,cap,cur,e,hb,?_,r⟩;rw[Below.heap_setCell w p x g (by omega)];exact hg

theorem uA (ds:List Nat)(k:Nat)(hk:k<ds.length):M.iV 0 (ds.take (k+1))=min (M.iV 0 (ds.take k)*10+(ds.getD k 0-48)) 1000000:=by
 unfold M.iV;rw[List.take_add_one,List.foldl_append,List.getD_eq_getElem?_getD,List.getElem?_eq_getElem hk]
 rfl

theorem oR (ds:List Nat)(k:Nat):M.iV 0 (ds.take k)<=1000000:=by
 induction k with
 |zero=>simp[M.iV]
 |succ k ih=>
  by_cases hk:k<ds.length
  . rw[uA ds k hk];omega
  . rw[List.take_of_length_le (by omega)];rw[List.take_of_length_le (by omega)]at ih;exact ih

theorem OU {ds:List Nat}(h:ds.all M.dgt=true)(k:Nat)(hk:k<ds.length):48<=ds.getD k 0/\ds.getD k 0<=57:=by
 rw[List.getD_eq_getElem?_getD,List.getElem?_eq_getElem hk];exact(M.vS _).1 (List.all_eq_true.1 h _ (List.getElem_mem hk))

def eO:Value->Nat
 | .slice _ n _=>n
 |_=>0

theorem pS {W:World}{g:Nat}{xs:Array Value}{t:TypeId}(R:Cls W g xs t)(hx:xs.size=4)(a b c d:Value):
 Cls ((((W.setCell ⟨g,0,none⟩ a).setCell ⟨g,1,none⟩ b).setCell ⟨g,2,none⟩ c).setCell ⟨g,3,none⟩ d) g #[a,b,c,d] t:=by
 refine(((R.set 0 a _ rfl).set 1 b _ rfl).set 2 c _ rfl).set 3 d _ ?_;obtain⟨l⟩:=xs
 match l,hx with
 |[x0,x1,x2,x3],_=>rfl

theorem fW {w W:World}{g:Nat}(H:Below g w W)(a b c d:Value):
 Below g w ((((W.setCell ⟨g,0,none⟩ a).setCell ⟨g,1,none⟩ b).setCell ⟨g,2,none⟩ c).setCell ⟨g,3,none⟩ d):=
 (((H.setCell (p:=⟨g,0,none⟩) (Nat.le_refl _) _).setCell (p:=⟨g,1,none⟩) (Nat.le_refl _) _).setCell (p:=⟨g,2,none⟩) (Nat.le_refl _) _).setCell (p:=⟨g,3,none⟩) (Nat.le_refl _) _

theorem qM {w W:World}{xs:Array Value}{t:TypeId}(R:Cls W w.heap.size xs t)(hx:xs.size=4)(B:Below w.heap.size w W)(a b c d:Value):∃w9,w9=((((W.setCell ⟨w.heap.size,0,none⟩ a).setCell ⟨w.heap.size,1,none⟩ b).setCell ⟨w.heap.size,2,none⟩ c).setCell ⟨w.heap.size,3,none⟩ d)/\Below w.heap.size w w9/\w9.cell? ⟨w.heap.size,0,none⟩=some a/\w9.cell? ⟨w.heap.size,1,none⟩=some b/\w9.cell? ⟨w.heap.size,2,none⟩=some c/\w9.cell? ⟨w.heap.size,3,none⟩=some d:=
 have R9:=pS R hx a b c d
 ⟨_,rfl,fW B a b c d,R9.cell 0 rfl,R9.cell 1 rfl,R9.cell 2 rfl,R9.cell 3 rfl⟩

theorem qI (ao:Option Addr)(n c:Nat)(bs:List Nat)(w:World)(hl:bs.length=n)(hn:n<=10000)(hr:RdB w ao bs)(r:Option M.Dec)(hw:r=M.whole bs):
 Calls Tryz.prog 26 #[.slice ao n c] w fun e w'=>WhR w w' e r:=by
 have HW:=hid hw;clear hw;go_enter Tryz.func26,Tryz.ntmps26;go_wp2_with fail;have b1:Below w.heap.size w (w.alloc (.cells eR 32)):=(Below.refl _ _).alloc (Nat.le_refl _) _;have R1:Cls (w.alloc (.cells eR 32)) w.heap.size eR 32:=Cls.new _ _ _;have hr1:=hr.below b1;have hz1:(w.alloc (.cells eR 32)).heap.size=w.heap.size+1:=by simp
 generalize w.alloc (.cells eR 32)=w1 at b1 R1 hr1 hz1|-;refine(zC ao n c bs w1 hl (by omega) hr1).mono ?_;rintro e w2 ⟨sa,sc,rfl,own2,b2⟩;have q2:RdV w2 (.slice sa (bs.map M.low).length sc) (bs.map M.low):=RdV.of_own own2 (NG hr.1);have R2:=R1.below b2;have B2:=b1.trans (b2.mono b1.size);obtain⟨t,ht⟩:∃t,t=bs.map M.low:=⟨_,rfl⟩;have hwh:r=M.mU (M.signed t).2 (M.signed t).1:=by rw[HW.out,ht];rfl
 have htl:t.length<=10000:=by rw[ht,List.length_map];omega
 rw[<-ht]at q2|-;clear own2 R1 b2 hr1 ht HW;have HW:=hid hwh;clear hwh;obtain⟨_,_,e,hc2,hcm,hno2,q2⟩:=q2;cases e;go_wp2_with fail;refine(nI sa t.length sc t w2 rfl hc2 hcm hno2 q2).mono ?_;rintro e w3 ⟨_,rfl,⟨va,vc,rfl,hvc,hvm,hvn,q3⟩,b3⟩;have R3:=R2.below b3;have B3:=B2.trans (b3.mono B2.size);have hvl:=tE t;have hwh:=HW.out;clear HW;obtain⟨v,hv⟩:∃v,v=(M.signed t).1:=⟨_,rfl⟩;obtain⟨ng,hng⟩:∃v,v=(M.signed t).2:=⟨_,rfl⟩;rw[<-hv]at q3 hvc hvl hwh|-;rw[<-hng]at hwh|-;have HW:=hid hwh;have hz3:=B3.size;clear hv hng R2 b3 q2 hc2 hcm hno2 hwh;have y0:=R3.cell 0 (x:=.int .i64 0) rfl;have y1:=R3.cell 1 (x:=.bool false) rfl;have y2:=R3.cell 2 (x:=.slice none 0 0) rfl;have y3:=R3.cell 3 (x:=.int .i64 0) rfl;have f0:=R3.frozen 0;have f1:=R3.frozen 1;have f2:=R3.frozen 2;have f3:=R3.frozen 3
 by_cases hi:v=M.fZ
 . have k1:=i8 va v.length vc v ⟨#[105,110,102]⟩ w3 rfl q3 true (by rw[hi];decide);have HI:=hid hi;clear hi;go_wp2_with fail;refine k1.mono ?_;rintro e w4 ⟨rfl,rfl⟩;go_wp2_with fail;clear y0 y1 y2 y3 f0 f1 f2 f3;obtain⟨w9,e9,H9,z0,z1,z2,z3⟩:=qM R3 rfl B3 (.int .i64 2) (.bool ng) (.slice none 0 0) (.int .i64 0);rw[<-e9];clear e9;refine bodyPost_ret (v:=.tuple #[.agg #[.int .i64 2,.bool ng,.slice none 0 0,.int .i64 0],.bool true]) (by simp[results,Tryz.results26,go_sem,z0,z1,z2,z3]) rfl ?_;rw[HW.out,HI.out];exact⟨none,0,rfl,World.ownsRow_nil _ _ _ _,H9⟩
 have k1:=i8 va v.length vc v ⟨#[105,110,102]⟩ w3 rfl q3 false (by rw[eq_comm,decide_eq_false_iff_not];exact hi)
 by_cases hj:v=M.aG
 . have k2:=i8 va v.length vc v ⟨#[105,110,102,105,110,105,116,121]⟩ w3 rfl q3 true (by rw[hj];decide);have HI:=hid hj;clear hi hj;go_wp2_with fail;refine k1.mono ?_;rintro e w4 ⟨rfl,rfl⟩;go_wp2_with fail;refine k2.mono ?_;rintro e w5 ⟨rfl,rfl⟩;go_wp2_with fail;clear y0 y1 y2 y3 f0 f1 f2 f3;obtain⟨w9,e9,H9,z0,z1,z2,z3⟩:=qM R3 rfl B3 (.int .i64 2) (.bool ng) (.slice none 0 0) (.int .i64 0);rw[<-e9];clear e9;refine bodyPost_ret (v:=.tuple #[.agg #[.int .i64 2,.bool ng,.slice none 0 0,.int .i64 0],.bool true]) (by simp[results,Tryz.results26,go_sem,z0,z1,z2,z3]) rfl ?_;rw[HW.out,HI.out];exact⟨none,0,rfl,World.ownsRow_nil _ _ _ _,H9⟩
 have k2:=i8 va v.length vc v ⟨#[105,110,102,105,110,105,116,121]⟩ w3 rfl q3 false (by rw[eq_comm,decide_eq_false_iff_not];exact hj)
 by_cases hk:v=M.gK
 . have k3:=i8 va v.length vc v ⟨#[110,97,110]⟩ w3 rfl q3 true (by rw[hk];decide);have HI:=hid hk;clear hi hj hk;go_wp2_with fail;refine k1.mono ?_;rintro e w4 ⟨rfl,rfl⟩;go_wp2_with fail;refine k2.mono ?_;rintro e w5 ⟨rfl,rfl⟩;go_wp2_with fail;refine k3.mono ?_;rintro e w6 ⟨rfl,rfl⟩;go_wp2_with fail;clear y0 y1 y2 y3 f0 f1 f2 f3;obtain⟨w9,e9,H9,z0,z1,z2,z3⟩:=qM R3 rfl B3 (.int .i64 3) (.bool false) (.slice none 0 0) (.int .i64 0);rw[<-e9];clear e9;refine bodyPost_ret (v:=.tuple #[.agg #[.int .i64 3,.bool false,.slice none 0 0,.int .i64 0],.bool true]) (by simp[results,Tryz.results26,go_sem,z0,z1,z2,z3]) rfl ?_;rw[HW.out,HI.out];exact⟨none,0,rfl,World.ownsRow_nil _ _ _ _,H9⟩
 have k3:=i8 va v.length vc v ⟨#[110,97,110]⟩ w3 rfl q3 false (by rw[eq_comm,decide_eq_false_iff_not];exact hk);have hnb:r=M.yA ng v:=by rw[HW.out,M.mU,if_neg (not_or.2 ⟨hi,hj⟩),if_neg hk]
 clear HW hi hj hk;have HW:=hid hnb;clear hnb;go_wp2_with fail;refine k1.mono ?_;rintro e w4 ⟨rfl,rfl⟩;go_wp2_with fail;refine k2.mono ?_;rintro e w5 ⟨rfl,rfl⟩;go_wp2_with fail;refine k3.mono ?_;rintro e w6 ⟨rfl,rfl⟩;clear k1 k2 k3;have kc:=uS va v.length vc 101 v w6 rfl (by omega) hvc hvm hvn (by omega) q3;go_wp2_with fail;refine kc.mono ?_;rintro e w7 ⟨_,_,rfl,⟨ra,rc,rfl,hrc,hrm,hrn,q7⟩,⟨pa,pc,rfl,hpc,hpm,hpn,p7⟩,b7⟩;clear y0 y1 y2 y3 f0 f1 f2 f3;clear q3 kc;have R7:=R3.below b7;have B7:=B3.trans (b7.mono B3.size);clear R3 b7;have hcl:=DO 101 v;have hwh:=HW.out;unfold M.yA at hwh;clear HW;obtain⟨⟨row,pw,has⟩,hcut⟩:∃x,x=M.cut 101 v:=⟨_,rfl⟩;rw[<-hcut]at q7 p7 hrc hpc hcl hwh|-;simp only at q7 p7 hrc hpc hcl hwh|-;clear hcut;have HW:=hid hwh;clear hwh;have kc:=uS ra row.length rc 46 row w7 rfl (by omega) hrc hrm hrn (by omega) q7;go_wp2_with fail;refine kc.mono ?_;rintro e w8 ⟨_,_,rfl,⟨wa,wcp,rfl,hwc,hwm,hwn,q8⟩,⟨da,dc,rfl,hdc,hdm,hdn,d8⟩,b8⟩;clear kc q7;have R8:=R7.below b8;have B8:=B7.trans (b8.mono B7.size);have p8:=p7.below b8;clear R7 b8 p7;have hcl2:=DO 46 row;have hwh:=HW.out;clear HW;obtain⟨⟨wh,pt,dot⟩,hcut⟩:∃x,x=M.cut 46 row:=⟨_,rfl⟩;rw[<-hcut]at q8 d8 hwc hdc hcl2 hwh|-;simp only at q8 d8 hwc hdc hcl2 hwh|-;clear hcut;have HW:=hid hwh;clear hwh;have y0:=R8.cell 0 (x:=.int .i64 0) rfl;have y1:=R8.cell 1 (x:=.bool false) rfl;have y2:=R8.cell 2 (x:=.slice none 0 0) rfl;have y3:=R8.cell 3 (x:=.int .i64 0) rfl;have f0:=R8.frozen 0;have f1:=R8.frozen 1;have f2:=R8.frozen 2;have f3:=R8.frozen 3
 by_cases a1:wh.all M.dgt=false
 . have ka:=gS wa wh.length wcp wh w8 rfl (by omega) q8 false a1.symm;have A1:=hid a1;clear a1;go_wp2_with fail;refine ka.mono ?_;rintro e w9 ⟨rfl,rfl⟩;go_wp2_with fail;clear y0 y1 y2 y3 f0 f1 f2 f3;obtain⟨w9,e9,H9,z0,z1,z2,z3⟩:=qM R8 rfl B8 (.int .i64 0) (.bool false) (.slice none 0 0) (.int .i64 0);rw[<-e9];clear e9;refine bodyPost_ret (v:=.tuple #[.agg #[.int .i64 0,.bool false,.slice none 0 0,.int .i64 0],.bool false]) (by simp[results,Tryz.results26,go_sem,z0,z1,z2,z3]) rfl ?_;rw[HW.out,if_pos (.inl A1.out)];exact⟨rfl,H9⟩
 have ka:=gS wa wh.length wcp wh w8 rfl (by omega) q8 true (by simpa using a1)
 by_cases a2:pt.all M.dgt=false
 . have kb:=gS da pt.length dc pt w8 rfl (by omega) d8 false a2.symm;have A2:=hid a2;clear a1 a2;go_wp2_with fail;refine ka.mono ?_;rintro e w9 ⟨rfl,rfl⟩;go_wp2_with fail;refine kb.mono ?_;rintro e w10 ⟨rfl,rfl⟩;go_wp2_with fail;clear y0 y1 y2 y3 f0 f1 f2 f3;obtain⟨w9,e9,H9,z0,z1,z2,z3⟩:=qM R8 rfl B8 (.int .i64 0) (.bool false) (.slice none 0 0) (.int .i64 0);rw[<-e9];clear e9;refine bodyPost_ret (v:=.tuple #[.agg #[.int .i64 0,.bool false,.slice none 0 0,.int .i64 0],.bool false]) (by simp[results,Tryz.results26,go_sem,z0,z1,z2,z3]) rfl ?_;rw[HW.out,if_pos (.inr (.inl A2.out))];exact⟨rfl,H9⟩
 have kb:=gS da pt.length dc pt w8 rfl (by omega) d8 true (by simpa using a2)
 by_cases a3:wh.length+pt.length=0
 . have a3':(((wh.length:Int)+(pt.length:Int))==0)=true:=by rw[beq_iff_eq];omega
   have A3:=hid a3;clear a1 a2 a3;go_wp2_with fail;refine ka.mono ?_;rintro e w9 ⟨rfl,rfl⟩;go_wp2_with fail;refine kb.mono ?_;rintro e w10 ⟨rfl,rfl⟩;go_wp2_with fail;clear y0 y1 y2 y3 f0 f1 f2 f3;obtain⟨w9,e9,H9,z0,z1,z2,z3⟩:=qM R8 rfl B8 (.int .i64 0) (.bool false) (.slice none 0 0) (.int .i64 0);rw[<-e9];clear e9;refine bodyPost_ret (v:=.tuple #[.agg #[.int .i64 0,.bool false,.slice none 0 0,.int .i64 0],.bool false]) (by simp[results,Tryz.results26,go_sem,z0,z1,z2,z3]) rfl ?_;rw[HW.out,if_pos (.inr (.inr A3.out))];exact⟨rfl,H9⟩
 have a3':(((wh.length:Int)+(pt.length:Int))==0)=false:=by rw[beq_eq_false_iff_ne];omega
 have hnb:r=(M.nN (row,pw,has)).map (M.iK ng (wh++pt) pt.length):=by rw[HW.out,if_neg (by intro x;rcases x with x|x|x;exact a1 x;exact a2 x;exact a3 x)]
 have HA1:=hid a1;have HA2:=hid a2;have HA3:=hid a3;clear HW a1 a2 a3;have HW:=hid hnb;clear hnb;go_wp2_with fail;refine ka.mono ?_;rintro e w9 ⟨rfl,rfl⟩;go_wp2_with fail;refine kb.mono ?_;rintro e w10 ⟨rfl,rfl⟩;clear ka kb;go_upto_if 65 with fail
 go_cut[12] (fun ev wr=>∃pr:Bool×Nat,ev=.int .i64 (if pr.1 then-(pr.2:Int)else pr.2)/\pr.2<=1000000/\r=some (M.iK ng (wh++pt) pt.length pr)/\Below w10.heap.size w10 wr)
 case first=>
  cases has with
  |false=>
   clear y0 y1 y2 y3 f0 f1 f2 f3;go_wp2_with fail;go_meet
   case rel=>exact⟨(false,0),rfl,by omega,HW.out,Below.refl _ _⟩
  |true=>
   clear y0 y1 y2 y3 f0 f1 f2 f3;go_wp2_with fail;refine(nI pa pw.length pc pw w10 rfl hpc hpm hpn p8).mono ?_;rintro e w11 ⟨_,rfl,⟨ga,gc,rfl,hgc,hgm,hgn,g11⟩,b11⟩;have R11:=R8.below b11;have B11:=B8.trans (b11.mono B8.size);have q11:=q8.below b11;have d11:=d8.below b11;have hgl:=tE pw;have hwh:=HW.out;rw[M.yR]at hwh;have HB11:=hid b11;clear HW R8 B8 q8 d8 b11 p8;obtain⟨⟨ds,dn⟩,hsg⟩:∃x,x=M.signed pw:=⟨_,rfl⟩;rw[<-hsg]at g11 hgc hgl hwh|-;simp only at g11 hgc hgl hwh|-;clear hsg;have HW:=hid hwh;clear hwh;have y0:=R11.cell 0 (x:=.int .i64 0) rfl;have y1:=R11.cell 1 (x:=.bool false) rfl;have y2:=R11.cell 2 (x:=.slice none 0 0) rfl;have y3:=R11.cell 3 (x:=.int .i64 0) rfl;have f0:=R11.frozen 0;have f1:=R11.frozen 1;have f2:=R11.frozen 2;have f3:=R11.frozen 3
   by_cases c1:ds=[]
   . have c1':(((ds.length:Nat):Int)==0)=true:=by rw[c1];rfl
     have C1:=hid c1;clear c1;go_wp2_with fail;clear y0 y1 y2 y3 f0 f1 f2 f3;obtain⟨w9,e9,H9,z0,z1,z2,z3⟩:=qM R11 rfl B11 (.int .i64 0) (.bool false) (.slice none 0 0) (.int .i64 0);rw[<-e9];clear e9;refine bodyPost_ret (v:=.tuple #[.agg #[.int .i64 0,.bool false,.slice none 0 0,.int .i64 0],.bool false]) (by simp[results,Tryz.results26,go_sem,z0,z1,z2,z3]) rfl ?_;rw[HW.out,if_pos (.inl C1.out)];exact⟨rfl,H9⟩
   have c1':(((ds.length:Nat):Int)==0)=false:=by
    rw[beq_eq_false_iff_ne]
    have:ds.length≠0:=fun e=>c1 (List.length_eq_zero_iff.1 e)
    omega
   by_cases c2:ds.all M.dgt=false
   . have ka:=gS ga ds.length gc ds w11 rfl (by omega) g11 false c2.symm;have C2:=hid c2;clear c1 c2;go_wp2_with fail;refine ka.mono ?_;rintro e w12 ⟨rfl,rfl⟩;go_wp2_with fail;clear y0 y1 y2 y3 f0 f1 f2 f3;obtain⟨w9,e9,H9,z0,z1,z2,z3⟩:=qM R11 rfl B11 (.int .i64 0) (.bool false) (.slice none 0 0) (.int .i64 0);rw[<-e9];clear e9;refine bodyPost_ret (v:=.tuple #[.agg #[.int .i64 0,.bool false,.slice none 0 0,.int .i64 0],.bool false]) (by simp[results,Tryz.results26,go_sem,z0,z1,z2,z3]) rfl ?_;rw[HW.out,if_pos (.inr C2.out)];exact⟨rfl,H9⟩
   have ka:=gS ga ds.length gc ds w11 rfl (by omega) g11 true (by simpa using c2);have hnb:r=some (M.iK ng (wh++pt) pt.length (dn,M.iV 0 ds)):=by rw[HW.out,if_neg (by intro x;rcases x with x|x;exact c1 x;exact c2 x)];rfl
   have hdd:ds.all M.dgt=true:=by simpa using c2
   have HDD:=hid hdd;clear HW c1 c2 hdd;have HW:=hid hnb;clear hnb;go_wp2_with fail;refine ka.mono ?_;rintro e w12 ⟨rfl,rfl⟩;clear ka;clear y0 y1 y2 y3 f0 f1 f2 f3;go_upto_block 0 with fail
   go_cut[12] (fun ev wr=>ev=.int .i64 ((M.iV 0 ds:Nat):Int)/\wr=w12)
   case first=>
    go_wp2_with fail
    go_loopw [12,82] (fun ev i wr=>∃k:Nat,k<=ds.length/\i=.int .i64 (k:Int)/\ev=.int .i64 ((M.iV 0 (ds.take k):Nat):Int)/\wr=w12) (fun _ i _=>ds.length-(intOf i).toNat)
    case atStart=>exact⟨0,by omega,rfl,by rw[List.take_zero];rfl,rfl⟩
    case round=>
     obtain⟨k,hk,rfl,rfl,rfl⟩:=hrel
     by_cases hlt:k<ds.length
     . have hlt':(k:Int)<((ds.length:Nat):Int):=by omega
       obtain⟨b2,o2,hbo,hc2⟩:=g11.2 (by omega);have hck:=hc2 k hlt;subst hbo;obtain⟨hd1,hd2⟩:=OU HDD.out k hlt;have hst:=uA ds k hlt;have hle:=oR ds k;generalize ds.getD k 0=x at*;generalize M.iV 0 (ds.take k)=e0 at*;have hs1:((x:Int)-48)=((x-48:Nat):Int):=by omega
       have H11:=hid g11;have HST:=hid hst;clear g11 hc2 hst
       by_cases hmx:1000000<e0*10+(x-48)
       . have hmx':(1000000:Int)<(e0:Int)*10+((x:Int)-48):=by omega
         go_wp2_with fail;go_roundw
         case rel=>
          have e9:M.iV 0 (ds.take (k+1))=1000000:=by rw[HST.out];omega
          exact⟨k+1,by omega,by go_num,by rw[e9];rfl,by first|rfl|trivial⟩
         case measure=>simp[intOf];omega
       . have hmx':¬(1000000:Int)<(e0:Int)*10+((x:Int)-48):=by omega
         go_wp2_with fail;go_roundw
         case rel=>
          have e9:((M.iV 0 (ds.take (k+1)):Nat):Int)=(e0:Int)*10+((x:Int)-48):=by rw[HST.out];omega
          exact⟨k+1,by omega,by go_num,by rw[e9,hs1],by first|rfl|trivial⟩
         case measure=>simp[intOf];omega
     . have e:k=ds.length:=by omega
       subst e;have hlt':¬((ds.length:Nat):Int)<((ds.length:Nat):Int):=by omega
       go_wp2_with fail;go_meet
       case rel=>exact⟨rfl,rfl⟩
   case rest=>
    obtain⟨rfl,rfl⟩:=hcut;have hle:=oR ds ds.length;rw[List.take_length]at hle;generalize M.iV 0 ds=e0 at*
    cases dn with
    |false=>
     go_wp2_with fail;go_meet
     case rel=>exact⟨(false,e0),rfl,hle,HW.out,HB11.out⟩
    |true=>
     have wne:IntKind.i64.wrap (-(e0:Int))= -(e0:Int):=by rw[IntKind.wrap_i64];omega
     go_wp2_with fail;go_meet
     case rel=>exact⟨(true,e0),rfl,hle,HW.out,HB11.out⟩
 case rest=>
 obtain⟨pr,rfl,hpr,hnb,bW⟩:=hcut;clear y0 y1 y2 y3 f0 f1 f2 f3;have R11:=R8.below bW;have B11:=B8.trans (bW.mono B8.size);have q11:=q8.below bW;have d11:=d8.below bW;clear HW R8 B8 q8 d8 bW p8;have HW:=hid hnb;clear hnb;obtain⟨E,hE⟩:∃E:Int,(if pr.1 then-(pr.2:Int)else pr.2)=E:=⟨_,rfl⟩
 have hE1:-1000000<=E/\E<=1000000:=by rw[<-hE];split<;>omega
 obtain⟨hE1,hE2⟩:=hE1;rw[hE];have HPE:=hid hE;clear hE hpr;have y0:=R11.cell 0 (x:=.int .i64 0) rfl;have y1:=R11.cell 1 (x:=.bool false) rfl;have y2:=R11.cell 2 (x:=.slice none 0 0) rfl;have y3:=R11.cell 3 (x:=.int .i64 0) rfl;have f0:=R11.frozen 0;have f1:=R11.frozen 1;have f2:=R11.frozen 2;have f3:=R11.frozen 3;have bA:Below w.heap.size w (wc.alloc (.cells #[.int .i64 1,.bool ng,.slice none 0 0,.int .i64 (E-(pt.length:Int))] 32)):=B11.alloc B11.size _;have D1:Cls (wc.alloc (.cells #[.int .i64 1,.bool ng,.slice none 0 0,.int .i64 (E-(pt.length:Int))] 32)) wc.heap.size #[.int .i64 1,.bool ng,.slice none 0 0,.int .i64 (E-(pt.length:Int))] 32:=Cls.new _ _ _;have bb:Below wc.heap.size wc (wc.alloc (.cells #[.int .i64 1,.bool ng,.slice none 0 0,.int .i64 (E-(pt.length:Int))] 32)):=(Below.refl _ _).alloc (Nat.le_refl _) _;have RA:=R11.below bb;have qA:=q11.below bb;have dA:=d11.below bb;have szA:(wc.alloc (.cells #[.int .i64 1,.bool ng,.slice none 0 0,.int .i64 (E-(pt.length:Int))] 32)).heap.size=wc.heap.size+1:=by simp
 have hgD:=R11.lt
 go_wp2_with (at_builtin;refine dC rfl _ _ rfl _ (wc.heap.size+1) _ 0 [] rfl (World.ownsRow_nil _ _ _ _) wa wh.length wcp wh rfl rfl hwn qA (by omega) (by simp) ?_)
 intro ra1 rc1 wB ownB grB
 have bB:Below (wc.heap.size+1) (wc.alloc (.cells #[.int .i64 1,.bool ng,.slice none 0 0,.int .i64 (E-(pt.length:Int))] 32)) wB:=by
  rw[<-szA]
  exact(Below.refl _ _).grown grB (Nat.le_refl _) (fun j e=>by cases e)
 have dB:=dA.below (by rw[szA];exact bB);have hszB:wc.heap.size+1<=wB.heap.size:=by have:=bB.size;omega
 go_wp2_with (at_builtin;refine dC rfl _ _ rfl _ (wc.heap.size+1) _ wh.length wh rfl ownB da pt.length dc pt rfl rfl hdn dB (by omega) hszB ?_)
 intro ra2 rc2 wC ownC grC
 have bC:Below (wc.heap.size+1) (wc.alloc (.cells #[.int .i64 1,.bool ng,.slice none 0 0,.int .i64 (E-(pt.length:Int))] 32)) wC:=bB.grown grC hszB (fun j e=>bU ownB e)
 have RC:=RA.below (by rw[szA];exact bC);have DC:=D1.below (by rw[szA];exact bC);have BC:=bA.trans (bC.mono (by omega))
 have hx256:∀x∈wh++pt,x<256:=fun x hx=>(List.mem_append.1 hx).elim (q11.1 x) (d11.1 x)
 have X1:RdX wC (wc.heap.size+1) ra2 (wh++pt):=RdX.of_own ownC hx256;have hcC:=jE ownC;have hmC:=rV ownC;have hnC:=pF ownC;clear grB grC ownB ownC bB bC bb dB RA D1 qA dA bA szA hszB;have elen:wh.length+pt.length=(wh++pt).length:=by simp
 rw[elen]at hcC|-;have hXL:(wh++pt).length<=10000:=by rw[<-elen];omega
 generalize hXS:wh++pt=xs at*;generalize wc.heap.size=gD at*;clear y0 y1 y2 y3 f0 f1 f2 f3;have XW:=hid X1;clear X1;go_upto_block 2 with fail
 go_cut[18] (fun ov wr=>∃(a:Option Addr)(cc:Nat),ov=.slice a (M.aT xs).length cc/\(M.aT xs).length<=cc/\cc<=9223372036854775807/\(a=none->cc=0)/\RdX wC (gD+1) a (M.aT xs)/\(M.aT xs).length<=xs.length/\wr=wC)
 case first=>
  go_wp2_with fail
  go_loopw [18] (fun ov wr=>∃(ys:List Nat)(a:Option Addr)(cc:Nat),ov=.slice a ys.length cc/\ys.length<=cc/\cc<=9223372036854775807/\(a=none->cc=0)/\RdX wC (gD+1) a ys/\M.aT xs=M.aT ys/\ys.length<=xs.length/\wr=wC) (fun ov _=>eO ov)
  case atStart=>exact⟨xs,ra2,rc2,rfl,hcC,hmC,hnC,XW.out,rfl,Nat.le_refl _,rfl⟩
  case round=>
   obtain⟨ys,a,cc,rfl,h1,h2,h3,h4,h5,h6,rfl⟩:=hrel
   cases ys with
   |nil=>
    have H4:=hid h4;have H5:=hid h5;clear h4 h5;go_wp2_with fail;go_meet
    case rel=>rw[H5.out];exact⟨a,cc,rfl,h1,h2,h3,H4.out,h6,rfl⟩
   |cons x r=>
    obtain⟨b2,o2,hbo,hB2,hc2⟩:=h4.2 (by simp);subst hbo;have hck:=hc2 0 (by simp);rw[show(x::r).getD 0 0=x from rfl,Nat.add_zero]at hck;have hln:(x::r).length=r.length+1:=rfl;rw[hln]at h1 h6|-;have hpos:(0:Int)<((r.length+1:Nat):Int):=by omega
    have H4:=hid h4;have H5:=hid h5;clear h4 h5 hc2 hln
    by_cases hx:x=48
    . subst hx;have H7:=hid (H4.out.tail1 h1)
      have kn:(if cc=1 then some (⟨b2,o2,none⟩:Addr)else some ⟨b2,o2+1,none⟩)≠none:=by split<;>simp
      go_wp2_with fail
      exact⟨⟨r,_,cc-1,rfl,by omega,by omega,fun h=>absurd h kn,H7.out,by rw[H5.out,yU],by omega,trivial⟩,by simp[eO]⟩
    . have hx':((x:Int)==48)=false:=by rw[beq_eq_false_iff_ne];omega
      have HX:=hid hx;clear hx;go_wp2_with fail;go_meet
      case rel=>rw[H5.out,zI r HX.out];exact⟨_,cc,rfl,h1,h2,h3,H4.out,h6,rfl⟩
 case rest=>
  obtain⟨a,cc,rfl,h1,h2,h3,h4,h6,hwc2⟩:=hcut;subst hwc2;clear XW;generalize hYS:M.aT xs=ys at*;have H4:=hid h4;have DC0:=hid DC;have RC0:=hid RC;have BC0:=hid BC;clear h4 DC RC BC;go_upto_block 4 with fail
  go_cut[18] (fun ov wr=>ov=.slice a (M.cL ys).length cc/\(M.cL ys).length<=ys.length/\RdX wr (gD+1) a (M.cL ys)/\Cls wr gD #[.int .i64 1,.bool ng,.slice none 0 0,.int .i64 ((E-(pt.length:Int))+((ys.length-(M.cL ys).length:Nat):Int))] 32/\Cls wr w.heap.size eR 32/\Below w.heap.size w wr)
  case first=>
   go_wp2_with fail
   go_loopw [18] (fun ov wr=>∃(zs:List Nat)(k:Nat),ov=.slice a zs.length cc/\ys.length=zs.length+k/\M.cL ys=M.cL zs/\RdX wr (gD+1) a zs/\Cls wr gD #[.int .i64 1,.bool ng,.slice none 0 0,.int .i64 ((E-(pt.length:Int))+(k:Int))] 32/\Cls wr w.heap.size eR 32/\Below w.heap.size w wr) (fun ov _=>eO ov)
   case atStart=>exact⟨ys,0,rfl,rfl,rfl,H4.out,by simpa using DC0.out,RC0.out,BC0.out⟩
   case round=>
    rename World=>wr
    obtain⟨zs,k,rfl,g1,g2,g3,g4,g5,g6⟩:=hrel;have G2:=hid g2;have G5:=hid g5;have G6:=hid g6;clear g2 g5 g6;rcases y9 zs with rfl|⟨q,x,rfl⟩
    . have G3:=hid g3;have G4:=hid g4;clear g3 g4;go_wp2_with fail;go_meet
      case rel=>
       rw[G2.out,show M.cL []=[]from rfl,show ys.length-([]:List Nat).length=k by rw[List.length_nil]at g1|-;omega];exact⟨rfl,by simp,G3.out,G4.out,G5.out,G6.out⟩
    . have hql:(q++[x]).length=q.length+1:=by simp
      obtain⟨b2,o2,hbo,hB2,hc2⟩:=g3.2 (by simp);subst hbo;have hck:=hc2 q.length (by simp);rw[show(q++[x]).getD q.length 0=x by simp]at hck;rw[hql]at g1|-;have hpos:(0:Int)<((q.length+1:Nat):Int):=by omega
      have hm1:((q.length+1:Nat):Int)-1=(q.length:Int):=by omega
      have hcc:q.length<=cc:=by omega
      have d3:=g4.cell 3 (x:=.int .i64 ((E-(pt.length:Int))+(k:Int))) rfl;have e3:=g4.frozen 3;have G3:=hid g3;have G4:=hid g4;clear g3 g4 hc2 hql
      by_cases hx:x=48
      . subst hx;go_wp2_with fail;refine⟨⟨q,k+1,rfl,by omega,by rw[G2.out,yC],G3.out.front1.far ⟨gD,3,none⟩ (by show gD<gD+1;omega) _,?_,G5.out.far ⟨gD,3,none⟩ (by show gD≠w.heap.size;omega) _,G6.out.setCell (p:=⟨gD,3,none⟩) (by show w.heap.size<=gD;omega) _⟩,by simp[eO]⟩;rw[show((E-(pt.length:Int))+((k+1:Nat):Int))=(E-(pt.length:Int))+(k:Int)+1 by omega];exact G4.out.set 3 _ _ rfl
      . have hx':((x:Int)==48)=false:=by rw[beq_eq_false_iff_ne];omega
        have HX:=hid hx;clear hx;go_wp2_with fail;go_meet
        case rel=>
         rw[G2.out,x8 q HX.out,List.length_append,List.length_singleton,show ys.length-(q.length+1)=k by omega];exact⟨rfl,by omega,G3.out,G4.out,G5.out,G6.out⟩
  case rest=>
   rename World=>wD
   obtain⟨rfl,h7,h8,h9,h10,h11⟩:=hcut;generalize hZS:M.cL ys=zs at*;have hbD:M.bJ xs=zs:=by show M.cL (M.aT xs)=zs;rw[hYS,hZS]
   have d3:=h9.cell 3 (x:=.int .i64 ((E-(pt.length:Int))+((ys.length-zs.length:Nat):Int))) rfl;have d0:=h9.cell 0 (x:=.int .i64 1) rfl;have d1:=h9.cell 1 (x:=.bool ng) rfl;have d2:=h9.cell 2 (x:=.slice none 0 0) rfl;have e2:=h9.frozen 2;have e3:=h9.frozen 3;have hz256:=h8.1;have hsD:=h9.lt;have H8:=hid h8;have H9:=hid h9;have H10:=hid h10;have H11:=hid h11;clear h8 h9 h10 h11;have hne:¬w.heap.size=gD:=by omega
   have hne':¬gD=w.heap.size:=by omega
   have hEx:(M.iK ng xs pt.length pr).exp=if zs=[]then 0 else(E-(pt.length:Int))+((ys.length-zs.length:Nat):Int):=by
    show M.iJ xs _=_
    unfold M.iJ;rw[hbD,hYS];split
    . rfl
    . first|(rw[HPE.out];done)|(rw[HPE.out];omega)
   clear d0 d1 d2 d3 e2 e3
   by_cases hz:zs=[]
   . have DW:=H9.out.set 3 (.int .i64 0) #[.int .i64 1,.bool ng,.slice none 0 0,.int .i64 0] rfl;have d3:=H9.out.cell 3 (x:=.int .i64 ((E-(pt.length:Int))+((ys.length-zs.length:Nat):Int))) rfl;have e3:=H9.out.frozen 3;have RW:=H10.out.far ⟨gD,3,none⟩ hne' (.int .i64 0);have XW:=H8.out.far ⟨gD,3,none⟩ (by show gD<gD+1;omega) (.int .i64 0);have BW:=H11.out.setCell (p:=⟨gD,3,none⟩) (by show w.heap.size<=gD;omega) (.int .i64 0);have hzl:zs.length=0:=by rw[hz];rfl
     have hzi:(((zs.length:Nat):Int)==0)=true:=by rw[hzl];rfl
     have hEz:(M.iK ng xs pt.length pr).exp=0:=by rw[hEx,if_pos hz]
     have HZ:=hid hz;have HZL:=hid hzl;have DWH:=hid DW;have RWH:=hid RW;have XWH:=hid XW;have BWH:=hid BW;have HEZ:=hid hEz;clear hz hzl DW RW XW BW hEz hEx
     go_wp2_with (at_builtin;refine dC rfl _ _ rfl (wD.setCell ⟨gD,3,none⟩ (.int .i64 0)) wD.heap.size _ 0 [] rfl (World.ownsRow_nil _ _ _ _) a zs.length cc zs rfl rfl h3 XWH.out.rd (by omega) (by simp) ?_)
     have hsF:(wD.setCell ⟨gD,3,none⟩ (.int .i64 0)).heap.size=wD.heap.size:=by simp
     generalize wD.setCell ⟨gD,3,none⟩ (.int .i64 0)=wF at*;intro ra3 rc3 wE ownE grE
     have bE:Below wF.heap.size wF wE:=(Below.refl _ _).grown grE (Nat.le_refl _) (fun j e=>by cases e)
     have DE:=DWH.out.below bE;have RE:=RWH.out.below bE;have BE:=BWH.out.trans (bE.mono BWH.out.size);have ltD:gD<wD.heap.size:=by have:=DWH.out.lt;omega
     have ltR:w.heap.size<wD.heap.size:=by have:=RWH.out.lt;omega
     have d0:=DE.cell 0 (x:=.int .i64 1) rfl;have d1:=DE.cell 1 (x:=.bool ng) rfl;have d2:=DE.cell 2 (x:=.slice none 0 0) rfl;have d3:=DE.cell 3 (x:=.int .i64 0) rfl;have e2:=DE.frozen 2;have y0:=RE.cell 0 (x:=.int .i64 0) rfl;have y1:=RE.cell 1 (x:=.bool false) rfl;have y2:=RE.cell 2 (x:=.slice none 0 0) rfl;have y3:=RE.cell 3 (x:=.int .i64 0) rfl;have f0:=RE.frozen 0;have f1:=RE.frozen 1;have f2:=RE.frozen 2;have f3:=RE.frozen 3;have DEH:=hid DE;have REH:=hid RE;have BEH:=hid BE;have OWH:=hid ownE;clear DE RE BE ownE grE bE;go_wp2_with fail;have R8:=REH.out.far ⟨gD,2,none⟩ hne' (.slice ra3 zs.length rc3);have B8:=BEH.out.setCell (p:=⟨gD,2,none⟩) (by show w.heap.size<=gD;omega) (.slice ra3 zs.length rc3);have O8:=bM (OWH.out) ⟨gD,2,none⟩ ltD (.slice ra3 zs.length rc3);generalize wE.setCell ⟨gD,2,none⟩ (.slice ra3 zs.length rc3)=w8' at R8 B8 O8|-;have O9:=bM (bM (bM (bM O8 ⟨w.heap.size,0,none⟩ ltR (.int .i64 1)) ⟨w.heap.size,1,none⟩ ltR (.bool ng)) ⟨w.heap.size,2,none⟩ ltR (.slice ra3 zs.length rc3)) ⟨w.heap.size,3,none⟩ ltR (.int .i64 0);have R9:=pS R8 rfl (.int .i64 1) (.bool ng) (.slice ra3 zs.length rc3) (.int .i64 0);have H9:=fW B8 (.int .i64 1) (.bool ng) (.slice ra3 zs.length rc3) (.int .i64 0);generalize((((w8'.setCell ⟨w.heap.size,0,none⟩ (.int .i64 1)).setCell ⟨w.heap.size,1,none⟩ (.bool ng)).setCell ⟨w.heap.size,2,none⟩ (.slice ra3 zs.length rc3)).setCell ⟨w.heap.size,3,none⟩ (.int .i64 0))=w9 at O9 R9 H9|-;have z0:=R9.cell 0 (x:=.int .i64 1) rfl;have z1:=R9.cell 1 (x:=.bool ng) rfl;have z2:=R9.cell 2 (x:=.slice ra3 zs.length rc3) rfl;have z3:=R9.cell 3 (x:=.int .i64 0) rfl;refine bodyPost_ret (v:=.tuple #[.agg #[.int .i64 1,.bool ng,.slice ra3 zs.length rc3,.int .i64 0],.bool true]) (by simp[results,Tryz.results26,go_sem,z0,z1,z2,z3]) rfl ?_;have O10:=gW O9 (show w.heap.size<=wD.heap.size by omega);rw[HW.out];have eD:(M.iK ng xs pt.length pr).digits=zs:=hbD;refine⟨ra3,rc3,?_,?_,H9⟩
     . show _=Ending.returned (.tuple #[.agg #[.int .i64 1,.bool ng,.slice ra3 (M.iK ng xs pt.length pr).digits.length rc3,.int .i64 (M.iK ng xs pt.length pr).exp],.bool true])
       rw[eD,HEZ.out]
     . rw[eD];exact O10
   . have hz0:(((zs.length:Nat):Int)==0)=false:=by
      rw[beq_eq_false_iff_ne]
      have:zs.length≠0:=fun e=>hz (List.length_eq_zero_iff.1 e)
      omega
     have hEz:(M.iK ng xs pt.length pr).exp=(E-(pt.length:Int))+((ys.length-zs.length:Nat):Int):=by rw[hEx,if_neg hz]
     have HZ:=hid hz;have HEZ:=hid hEz;clear hz hEz hEx;have hsF:wD.heap.size=wD.heap.size:=rfl
     go_wp2_with (at_builtin;refine dC rfl _ _ rfl _ wD.heap.size _ 0 [] rfl (World.ownsRow_nil _ _ _ _) a zs.length cc zs rfl rfl h3 H8.out.rd (by omega) (Nat.le_refl _) ?_)
     intro ra3 rc3 wE ownE grE
     have bE:Below wD.heap.size wD wE:=(Below.refl _ _).grown grE (Nat.le_refl _) (fun j e=>by cases e)
     have DE:=H9.out.below bE;have RE:=H10.out.below bE;have BE:=H11.out.trans (bE.mono H11.out.size);have ltD:gD<wD.heap.size:=by have:=H9.out.lt;omega
     have ltR:w.heap.size<wD.heap.size:=by have:=H10.out.lt;omega
     have d0:=DE.cell 0 (x:=.int .i64 1) rfl;have d1:=DE.cell 1 (x:=.bool ng) rfl;have d2:=DE.cell 2 (x:=.slice none 0 0) rfl;have d3:=DE.cell 3 (x:=.int .i64 ((E-(pt.length:Int))+((ys.length-zs.length:Nat):Int))) rfl;have e2:=DE.frozen 2;have y0:=RE.cell 0 (x:=.int .i64 0) rfl;have y1:=RE.cell 1 (x:=.bool false) rfl;have y2:=RE.cell 2 (x:=.slice none 0 0) rfl;have y3:=RE.cell 3 (x:=.int .i64 0) rfl;have f0:=RE.frozen 0;have f1:=RE.frozen 1;have f2:=RE.frozen 2;have f3:=RE.frozen 3;have DEH:=hid DE;have REH:=hid RE;have BEH:=hid BE;have OWH:=hid ownE;clear DE RE BE ownE grE bE;go_wp2_with fail;have R8:=REH.out.far ⟨gD,2,none⟩ hne' (.slice ra3 zs.length rc3);have B8:=BEH.out.setCell (p:=⟨gD,2,none⟩) (by show w.heap.size<=gD;omega) (.slice ra3 zs.length rc3);have O8:=bM (OWH.out) ⟨gD,2,none⟩ ltD (.slice ra3 zs.length rc3);generalize wE.setCell ⟨gD,2,none⟩ (.slice ra3 zs.length rc3)=w8' at R8 B8 O8|-;have O9:=bM (bM (bM (bM O8 ⟨w.heap.size,0,none⟩ ltR (.int .i64 1)) ⟨w.heap.size,1,none⟩ ltR (.bool ng)) ⟨w.heap.size,2,none⟩ ltR (.slice ra3 zs.length rc3)) ⟨w.heap.size,3,none⟩ ltR (.int .i64 ((E-(pt.length:Int))+((ys.length-zs.length:Nat):Int)));have R9:=pS R8 rfl (.int .i64 1) (.bool ng) (.slice ra3 zs.length rc3) (.int .i64 ((E-(pt.length:Int))+((ys.length-zs.length:Nat):Int)));have H9:=fW B8 (.int .i64 1) (.bool ng) (.slice ra3 zs.length rc3) (.int .i64 ((E-(pt.length:Int))+((ys.length-zs.length:Nat):Int)));generalize((((w8'.setCell ⟨w.heap.size,0,none⟩ (.int .i64 1)).setCell ⟨w.heap.size,1,none⟩ (.bool ng)).setCell ⟨w.heap.size,2,none⟩ (.slice ra3 zs.length rc3)).setCell ⟨w.heap.size,3,none⟩ (.int .i64 ((E-(pt.length:Int))+((ys.length-zs.length:Nat):Int))))=w9 at O9 R9 H9|-;have z0:=R9.cell 0 (x:=.int .i64 1) rfl;have z1:=R9.cell 1 (x:=.bool ng) rfl;have z2:=R9.cell 2 (x:=.slice ra3 zs.length rc3) rfl;have z3:=R9.cell 3 (x:=.int .i64 ((E-(pt.length:Int))+((ys.length-zs.length:Nat):Int))) rfl;refine bodyPost_ret (v:=.tuple #[.agg #[.int .i64 1,.bool ng,.slice ra3 zs.length rc3,.int .i64 ((E-(pt.length:Int))+((ys.length-zs.length:Nat):Int))],.bool true]) (by simp[results,Tryz.results26,go_sem,z0,z1,z2,z3]) rfl ?_;have O10:=gW O9 (show w.heap.size<=wD.heap.size by omega);rw[HW.out];have eD:(M.iK ng xs pt.length pr).digits=zs:=hbD;refine⟨ra3,rc3,?_,?_,H9⟩
     . show _=Ending.returned (.tuple #[.agg #[.int .i64 1,.bool ng,.slice ra3 (M.iK ng xs pt.length pr).digits.length rc3,.int .i64 (M.iK ng xs pt.length pr).exp],.bool true])
       rw[eD,HEZ.out]
     . rw[eD];exact O10

end Go.Proofs.YtfdgkleoaehjaaaGreatDoor
