import Derived.Test.YtfdgkleoaehjaaaGreatDoorfGAH
set_option maxHeartbeats 2000000
namespace Go.Proofs.YtfdgkleoaehjaaaGreatDoor
open Go.RowKit
set_option linter.unusedVariables false
set_option maxRecDepth 100000

theorem mF (ao bo:Option Addr)(n m c d:Nat)(a b:Nat)(w:World)(hl:(L a).length=n)(hm:(L b).length=m)(hn:n<=1048576)(hn2:m<=1048576)(hr:Rd w ao (L a))(hr2:Rd w bo (L b)):
 Calls Tryz.prog 99 #[.slice ao n c,.slice bo m d] w fun e w'=>Ret w w' e (L (a*b)):=by
 obtain⟨i0,hi,hz0,hz1,hz2⟩:=info_parts Tryz.infoU
 have hmk:=fun(wx:World)=>run_make (P:=Tryz.prog) wx 87 25 i0 (.int .u64 0) Tryz.underlying87 hi hz0 .i64 .i64 ((n+m:Nat):Int) ((n+m:Nat):Int) (by omega) (Int.le_refl _) (by rw[hz2];omega) (by omega)
 have es:((n+m:Nat):Int)=(n:Int)+(m:Int):=by omega
 rw[es]at hmk;have et:((n:Int)+(m:Int)).toNat=n+m:=by omega
 rw[et]at hmk;clear es et;have fb:=gP b
 have hsepA:0<(L a).length->∀b2 o2,ao=some ⟨b2,o2,none⟩->b2≠w.heap.size:=by
  intro hp b2 o2 e;obtain⟨b3,o3,e3,hc⟩:=hr hp;rw[e]at e3;simp only[Option.some.injEq,Addr.mk.injEq]at e3;have:=World.block_lt_of_cell? w _ (hc 0 hp)
  simp at this
  omega
 have HSep:=hid hsepA;clear hsepA;go_enter Tryz.func99,Tryz.ntmps99;go_wp2_with fail
 go_loopw [16] (fun i wr=>∃(k:Nat)(cur:List Nat),k<=m/\i=.int .i64 k/\Blk wr w.heap.size cur/\cur.length=n+m/\F64 cur/\(∀j,n+k<=j->cur.getD j 0=0)/\V cur=a*V ((L b).take k)/\Below w.heap.size w wr) (fun i _=>m-(intOf i).toNat)
 case atStart=>
  refine⟨0,List.replicate (n+m) 0,by omega,rfl,fL w (n+m),by simp,fun x hx=>by simp at hx;omega,fun j _=>?_,?_,(Below.refl _ _).alloc (Nat.le_refl _) _⟩
  . rw[List.getD_eq_getElem?_getD,List.getElem?_replicate];split<;>rfl
  . unfold V;rw[M.dL];simp[M.val]
 case round=>
  obtain⟨k,cur,hk,rfl,hBk,hcl,hcf,hz,hv,hbl⟩:=hrel;clear hmk;have HZ:=hid hz;clear hz;have HV:=hid hv;clear hv;have HCL:=hid hcl;clear hcl
  by_cases hlt:k<m
  . obtain⟨b2,o2,hbo,hcc⟩:=(hr2.below hbl) (by omega);have hck:=hcc k (by omega);clear hcc;have hy1:=fb.get k;obtain⟨y,hyy⟩:∃y:Nat,y=(L b).getD k 0:=⟨_,rfl⟩;rw[<-hyy]at hck hy1;have HY:=hid hyy;clear hyy;have hlt':(k:Int)<(m:Int):=by omega
    have hne:¬n+m=k:=by omega
    have hlt3:(k:Int)+(n:Int)<((n+m:Nat):Int):=by omega
    go_wp2_with fail
    refine(tB w.heap.size k n (n+m-k) _ ao c y cur (L a) _ (fun _=>rfl) hBk hcf (by have:=HCL.out;omega) (by omega) hl (gP a) hy1 (hr.below hbl) HSep.out).mono ?_
    rintro e w1 ⟨cc,rfl,hg1,hcc1,cur1,hB1,hW1,hv1⟩
    have hb1:Below w.heap.size w w1:=hbl.grown hg1 hbl.size (fun _ h=>by cases h;exact Nat.le_refl _)
    have hl1:cur1.length=n+m:=by rw[hW1.len];exact HCL.out
    have hcs:=hB1.cell (k+n) (by omega);have hfs:=hB1.frozen (k+n);have hz1:cur1.getD (k+n) 0=0:=by rw[hW1.out (k+n) (by omega)];exact HZ.out _ (by omega)
    rw[hz1]at hcs;have HB1:=hid hB1;clear hB1;have HV1:=hid hv1;clear hv1;have HL1:=hid hl1;clear hl1;have HZ1:=hid hz1;clear hz1;clear hck hBk hg1;go_wp2_with fail;go_roundw
    case rel=>
     have R:∃(k1:Nat)(cur2:List Nat),k1<=m/\Value.int .i64 ((k:Int)+1)=.int .i64 k1/\Blk (w1.setCell ⟨w.heap.size,k+n,none⟩ (.int .u64 (cc:Int))) w.heap.size cur2/\cur2.length=n+m/\F64 cur2/\(∀j,n+k1<=j->cur2.getD j 0=0)/\V cur2=a*V ((L b).take k1)/\Below w.heap.size w (w1.setCell ⟨w.heap.size,k+n,none⟩ (.int .u64 (cc:Int))):=by
      refine⟨k+1,cur1.set (k+n) cc,by omega,by go_num,HB1.out.set _ _ _ rfl,by rw[List.length_set];exact HL1.out,?_,?_,?_,hb1.setCell (Nat.le_refl _) _⟩
      . intro x hx;rcases List.mem_or_eq_of_mem_set hx with hx|rfl
        . exact hW1.lt x hx
        . exact hcc1
      . intro j hj;rw[M.bO _ _ _ _ (by omega),hW1.out j (by omega)];exact HZ.out j (by omega)
      . have e1:=M.tW hW1 (by have:=HCL.out;omega);have e2:=M.jU 18446744073709551616 (k+n) cur1 cc (by have:=HL1.out;omega);rw[HZ1.out,Nat.mul_zero,Nat.add_zero,Nat.pow_add]at e2;unfold V at*;rw[M.aJ,<-HY.out];refine M.NI HV.out e1 ?_ e2;have:=HV1.out;rw[show M.val 18446744073709551616 (L a)=a from V_L a]at this;exact this
     first|exact R|((repeat apply Exists.intro);exact⟨R,rfl⟩)|((repeat apply Exists.intro);exact⟨R,by rw[hbo]⟩)
    case measure=>simp[intOf];omega
  . have e:k=m:=by omega
    subst e;go_wp2_with fail
    have hfin:V cur=a*b:=by
     have:=HV.out
     rwa[List.take_of_length_le (by omega),V_L]at this
    refine(dI _ (n+k) (n+k) cur _ HCL.out (Nat.le_refl _) (by omega) hcf hBk.rd0).mono ?_;rw[hfin];rintro e w3 ⟨rfl,rfl⟩;go_wp2_with fail;go_ret;have h1:=nL cur hcf;have h2:=mV cur hcf;rw[hfin]at h1 h2;have h3:=hBk.ownPre (base:=w.heap.size) (Nat.le_refl _) h1 HCL.out (by unfold maxLen;omega);rw[h2]at h3;exact⟨_,_,rfl,h3,hbl⟩

theorem MN (x:Nat)(w:World)(h:x<18446744073709551616)(b:Nat)(hb:b=aB x):
 Calls Tryz.prog 132 #[.int .u64 (x:Int)] w fun e w'=>e=.returned (.int .i64 (b:Int))/\w'=w:=by
 have HB:=hid hb;clear hb;go_enter Tryz.func132,Tryz.ntmps132;go_wp2_with fail;refine(p9 x _ h b HB.out).mono ?_;rintro e w1 ⟨rfl,rfl⟩;go_wp2_with fail;go_ret;exact⟨rfl,rfl⟩

structure Own (w:World)(lo hi:Nat)(ao:Option Addr)(cap:Nat)(r:List Nat):Prop where
 row:w.ownsRow 0 25 1 (.slice ao r.length cap) r.length (U r)
 place:∀k,(Value.slice ao r.length cap).ownBlock=some k->lo<=k/\k<hi

theorem Own.of {w:World}{base:Nat}{ao:Option Addr}{cap:Nat}{r:List Nat}(h:w.ownsRow base 25 1 (.slice ao r.length cap) r.length (U r)):Own w base w.heap.size ao cap r:=
 ⟨aM h (Nat.zero_le _),fun k hk=>h.lt k hk⟩

theorem Own.rd {w:World}{lo hi:Nat}{ao:Option Addr}{cap:Nat}{r:List Nat}(h:Own w lo hi ao cap r):Rd w ao r:=Rd.own h.row

theorem Own.keep {w w':World}{lo hi:Nat}{ao:Option Addr}{cap:Nat}{r:List Nat}(h:Own w lo hi ao cap r)(hb:Below w.heap.size w w'):Own w' lo hi ao cap r:=⟨cH h.row hb,h.place⟩

theorem Own.drewN {w:World}{lo hi:Nat}{ao:Option Addr}{cap:Nat}{r:List Nat}(h:Own w lo hi ao cap r)(q:Nat):Own (w.drewN q) lo hi ao cap r:=h.keep (below_drewN (Below.refl _ _) q)

theorem Own.grown {w w':World}{lo hi:Nat}{ao:Option Addr}{cap:Nat}{r:List Nat}{row:Option Nat}(h:Own w lo hi ao cap r)(hg:w.grownBy w' row)(hne:∀k,lo<=k->k<hi->row≠some k):Own w' lo hi ao cap r:=by
 refine⟨h.row.kept hg ?_,h.place⟩
 cases hv:(Value.slice ao r.length cap).ownBlock with
 |none=>exact .inl rfl
 |some k=>right;intro e;have:=h.place k hv;exact hne k this.1 this.2 e.symm

theorem Blk.toOwn {w:World}{g:Nat}{zs:List Nat}(h:Blk w g zs)(hm:zs.length<=4194304):Own w g (g+1) (some ⟨g,0,none⟩) zs.length zs:=
 ⟨h.own (Nat.zero_le _) rfl (by unfold maxLen;omega),fun k hk=>by simp[Value.ownBlock]at hk;omega⟩

theorem Own.mark {w':World}{base:Nat}{lo hi:Nat}{ao:Option Addr}{cap:Nat}{r:List Nat}{w:World}(h:Own w lo hi ao cap r)(k0:Nat)(ho:w'.ownsRow 0 25 1 (.slice ao r.length cap) r.length (U (NQ k0 r.length))):Rd w' ao (NQ k0 r.length):=Rd.own ho

def RetD (w w':World)(e:Ending)(q r:List Nat):Prop:=
 ∃ao ca bo cb mid,e=.returned (.tuple #[.slice ao q.length ca,.slice bo r.length cb])/\w.heap.size<=mid/\mid<=w'.heap.size/\Own w' w.heap.size mid ao ca q/\Own w' mid w'.heap.size bo cb r/\Below w.heap.size w w'

theorem Own.widen {w:World}{lo hi lo' hi':Nat}{ao:Option Addr}{cap:Nat}{r:List Nat}(h:Own w lo hi ao cap r)(h1:lo'<=lo)(h2:hi<=hi'):Own w lo' hi' ao cap r:=
 ⟨h.row,fun k hk=>by have:=h.place k hk;omega⟩

theorem Own.nil (w:World)(lo hi:Nat):Own w lo hi none 0 []:=⟨World.ownsRow_nil _ _ _ _,fun k hk=>by simp[Value.ownBlock]at hk⟩

theorem RetD.later {w w1 w2:World}{e:Ending}{q r:List Nat}(h:RetD w1 w2 e q r)(hb:Below w.heap.size w w1):RetD w w2 e q r:=by
 obtain⟨ao,ca,bo,cb,mid,he,g1,g2,h1,h2,h3⟩:=h;exact⟨ao,ca,bo,cb,mid,he,Nat.le_trans hb.size g1,g2,h1.widen hb.size (Nat.le_refl _),h2,hb.trans (h3.mono hb.size)⟩

theorem Blk.ownTrim {w:World}{g:Nat}{zs:List Nat}(h:Blk w g zs)(hz:F64 zs)(hm:zs.length<=4194304):Own w g (g+1) (some ⟨g,0,none⟩) zs.length (L (V zs)):=by
 have h3:=h.ownPre (base:=0) (c:=zs.length) (Nat.zero_le _) (nL _ hz) rfl (by unfold maxLen;omega);rw[mV _ hz]at h3
 exact⟨h3,fun k hk=>by simp[Value.ownBlock]at hk;omega⟩

theorem Q5 (b:Nat)(h:(L b).length=1):L b=[b]:=by
 have h1:b<18446744073709551616^1:=sZ b 1 (by omega)
 have hp:0<b:=by
  rcases Nat.eq_zero_or_pos b with rfl|hp
  . have:L 0=[]:=M.aH _;rw[this]at h;simp at h
  . exact hp
 unfold L;rw[M.aV (by omega) hp,Nat.mod_eq_of_lt (by omega),Nat.div_eq_of_lt (by omega),M.aH]

theorem DX (ao bo:Option Addr)(n m c d:Nat)(a b:Nat)(w:World)(hl:(L a).length=n)(hm:(L b).length=m)(hab:a<b)(hn:n<=1048576)(hn2:m<=1048576)(hr:Rd w ao (L a))(hr2:Rd w bo (L b)):
 Calls Tryz.prog 148 #[.slice ao n c,.slice bo m d] w fun e w'=>RetD w w' e (L (a/b)) (L (a%b)):=by
 rw[Nat.div_eq_of_lt hab,Nat.mod_eq_of_lt hab,show L 0=[]from M.aH _];have hcmp:=yX hab;go_enter Tryz.func148,Tryz.ntmps148;go_wp2_with fail;refine(dU ao bo n m c d a b _ hl hm (by omega) (by omega) hr hr2).mono ?_;rintro e w1 ⟨rfl,q1,rfl⟩;have hb1:=below_drewN (Below.refl w.heap.size w) q1;generalize w.drewN q1=w1 at hb1|-;go_wp2_with fail;refine(jF ao n c 0 (L a) _ hl (by omega) (by omega) (hr.below hb1)).mono ?_;rw[List.replicate_zero,List.append_nil];rintro e w2 ⟨rfl,hB2,hb2⟩;go_wp2_with fail
 go_ret2
 have ho:=hB2.toOwn (by omega);rw[hl]at ho;refine⟨none,0,some ⟨w1.heap.size,0,none⟩,n,w1.heap.size,?_,hb1.size,hb2.size,Own.nil _ _ _,ho.widen (Nat.le_refl _) (by have:=hB2.lt;omega),hb1.trans (hb2.mono hb1.size)⟩;rw[hl]
 rfl

theorem zZ (ao bo:Option Addr)(n c d:Nat)(a b:Nat)(w:World)(hl:(L a).length=n)(hm:(L b).length=1)(hab:b<=a)(hn:n<=1048576)(hr:Rd w ao (L a))(hr2:Rd w bo (L b)):
 Calls Tryz.prog 148 #[.slice ao n c,.slice bo 1 d] w fun e w'=>RetD w w' e (L (a/b)) (L (a%b)):=by
 have hcmp:=lK hab;have hb1:=Q5 b hm;have hbb:b<18446744073709551616:=by have:=sZ b 1 (by omega);omega
 have hb0:0<b:=by
  rcases Nat.eq_zero_or_pos b with rfl|hp
  . rw[show L 0=[]from M.aH _]at hm;simp at hm
  . exact hp
 obtain⟨qq,eqq⟩:∃x,x=a/b:=⟨_,rfl⟩;obtain⟨rr,err⟩:∃x,x=a%b:=⟨_,rfl⟩;have hrr:rr<18446744073709551616:=by rw[err];exact Nat.lt_trans (Nat.mod_lt _ hb0) hbb
 rw[<-eqq,<-err];have EQ:=hid eqq;have ER:=hid err;clear eqq err;go_enter Tryz.func148,Tryz.ntmps148;go_wp2_with fail;refine(dU ao bo n 1 c d a b _ hl hm (by omega) (by omega) hr hr2).mono ?_;rintro e w1 ⟨rfl,q1,rfl⟩;have hbl1:=below_drewN (Below.refl w.heap.size w) q1;generalize w.drewN q1=w1 at hbl1|-;go_wp2_with fail;refine(jF ao n c 0 (L a) _ hl (by omega) (by omega) (hr.below hbl1)).mono ?_;rw[List.replicate_zero,List.append_nil];rintro e w2 ⟨rfl,hB2,hbl2⟩;have hblw2:=hbl1.trans (hbl2.mono hbl1.size);obtain⟨bb,oo,hbo,hcl⟩:=(hr2.below hblw2) (by omega);have hc0:=hcl 0 (by omega);rw[hb1]at hc0;simp only[List.getD_cons_zero,Nat.add_zero]at hc0;clear hcl;have HB2:=hid hB2;clear hB2;go_wp2_with fail
 refine(tS w1.heap.size n n b _ (L a) _ (fun _=>rfl) HB2.out (gP a) (by omega) (by omega) hb0 hbb).mono ?_
 rw[List.take_of_length_le (by omega),V_L,<-EQ.out,<-ER.out];rintro e w3 ⟨rfl,hg3,cur,hB3,hW3,hv3⟩;have hcl3:cur.length=n:=by rw[hW3.len];exact hl
 rw[List.take_of_length_le (by omega)]at hv3
 have hblw3:Below w.heap.size w w3:=hblw2.grown hg3 hblw2.size (fun k h=>by cases h;exact hbl1.size)
 have hlit:=mL w3 [rr];have hU1:(U [rr]).toArray=#[Value.int .u64 (rr:Int)]:=rfl;have hbl4:Below w3.heap.size w3 (w3.alloc (.cells (U [rr]).toArray 25)):=(Below.refl _ _).alloc (Nat.le_refl _) _;rw[hU1]at hlit hbl4;have hB4:=hB3.keep hbl4;have hf1:F64 [rr]:=by intro y hy;simp at hy;omega
 have hv1:V [rr]=rr:=by simp[V,M.val]
 have hblw4:=hblw3.trans (hbl4.mono hblw3.size);have hg1lt:w1.heap.size<w3.heap.size:=hB3.lt;have HB4:=hid hB4;have HLIT:=hid hlit;have HBL4:=hid hblw4;have HV1:=hid hv1;have HV3:=hid hv3;have HB3:=hid hB3;clear hB4 hlit hblw4 hv1 hv3 hB3 hU1 hbl4 hc0 HB2;go_wp2_with fail;have hB4:=HB4.out;have hlit:=HLIT.out;have hblw4:=HBL4.out;generalize w3.alloc (.cells #[Value.int .u64 (rr:Int)] 25)=w4 at hB4 hlit hblw4|-;refine(dI _ n n cur _ hcl3 (Nat.le_refl _) (by omega) hW3.lt hB4.rd0).mono ?_;rw[HV3.out];rintro e w5 ⟨rfl,rfl⟩;go_wp2_with fail;refine(dI _ 1 1 [rr] _ rfl (Nat.le_refl _) (by omega) hf1 hlit.rd0).mono ?_;rw[HV1.out];rintro e w6 ⟨rfl,rfl⟩;go_wp2_with fail
 go_ret2
 have o1:=hB4.ownTrim hW3.lt (by omega);have o2:=hlit.ownTrim hf1 (by simp);rw[HV3.out,hcl3]at o1;rw[HV1.out]at o2;exact⟨_,_,_,_,w3.heap.size,rfl,hblw3.size,(by have:=hlit.lt;omega),o1.widen hbl1.size (by omega),o2.widen (Nat.le_refl _) (by have:=hlit.lt;omega),hblw4⟩

theorem IP (a b n m s:Nat)(hl:(L a).length=n)(hm:(L b).length=m)(hm2:2<=m)(hab:b<=a)(hs:s=64-aB ((L b).getD (m-1) 0)):
 s<64/\(L (b*2^s)).length=m/\9223372036854775808<=(L (b*2^s)).getD (m-1) 0/\(L (a*2^s)).length<=n+1/\m<=n/\a*2^s<b*2^s*18446744073709551616^(n+1-m):=by
 have hbp:0<b:=by
  rcases Nat.eq_zero_or_pos b with rfl|hp
  . rw[show L 0=[]from M.aH _]at hm;simp at hm;omega
  . exact hp
 have htn:(L b).getD (m-1) 0≠0:=by
  have:=M.yG (B:=18446744073709551616) (by omega) b hbp;unfold L at hm|-
  rwa[hm]at this
 have htb:(L b).getD (m-1) 0<18446744073709551616:=F64.get (gP b) _;obtain⟨hs64,hn1,hn2⟩:=qZ _ s (by omega) htb hs;have hdig:(L b).getD (m-1) 0=b/18446744073709551616^(m-1)%18446744073709551616:=M.dig_get (by omega) _ _;have hbm:=sZ b m (by omega);have hPp:0<18446744073709551616^(m-1):=Nat.pow_pos (by omega)
 have hpm:18446744073709551616^m=18446744073709551616^(m-1)*18446744073709551616:=by
  rw[<-Nat.pow_succ];congr 1;omega
 have hbq:b/18446744073709551616^(m-1)<18446744073709551616:=Nat.div_lt_of_lt_mul (by rw[<-hpm];exact hbm);rw[Nat.mod_eq_of_lt hbq]at hdig;generalize(L b).getD (m-1) 0=t at*;have hsp:0<2^s:=Nat.pow_pos (by omega);have hKP:2^(64-s)*2^s=18446744073709551616:=M.fG s 64 (by omega)
 have ht1:(t+1)*2^s<=18446744073709551616:=by
  have h1:t<2^(64-s):=by
   have:t*2^s<2^(64-s)*2^s:=by rw[hKP];exact hn1
   exact Nat.lt_of_mul_lt_mul_right this
  have:(t+1)*2^s<=2^(64-s)*2^s:=Nat.mul_le_mul_right _ h1;omega
 have hb1:18446744073709551616^(m-1)*t<=b:=by rw[hdig];exact Nat.mul_div_le _ _
 have hb2:b<18446744073709551616^(m-1)*(t+1):=by rw[hdig];exact Nat.lt_mul_div_succ _ hPp
 have hlo:18446744073709551616^(m-1)*9223372036854775808<=b*2^s:=by
  have h1:18446744073709551616^(m-1)*(t*2^s)<=b*2^s:=by rw[<-Nat.mul_assoc];exact Nat.mul_le_mul_right _ hb1
  exact Nat.le_trans (Nat.mul_le_mul_left _ hn2) h1
 have hhi:b*2^s<18446744073709551616^(m-1)*18446744073709551616:=by
  have h1:b*2^s<18446744073709551616^(m-1)*(t+1)*2^s:=Nat.mul_lt_mul_of_pos_right hb2 hsp;rw[Nat.mul_assoc]at h1;exact Nat.lt_of_lt_of_le h1 (Nat.mul_le_mul_left _ ht1)
 have hlen:(L (b*2^s)).length=m:=by
  refine Nat.le_antisymm (M.len_of_lt (by omega) _ _ (by rw[hpm];exact hhi)) ?_;rcases Nat.lt_or_ge (L (b*2^s)).length m with h|h
  . have h1:=sZ (b*2^s) (m-1) (by omega);have h2:18446744073709551616^(m-1)*1<=18446744073709551616^(m-1)*9223372036854775808:=Nat.mul_le_mul_left _ (by omega);omega
  . exact h
 have hmn:m<=n:=by
  rcases Nat.lt_or_ge n m with h|h
  . have:a<b:=M.dF (B:=18446744073709551616) (by omega) (by rw[show(M.dig 18446744073709551616 a).length=n from hl,show(M.dig 18446744073709551616 b).length=m from hm];exact h);omega
  . exact h
 have han:=sZ a n (by omega);have ha':a*2^s<18446744073709551616^n*2^s:=Nat.mul_lt_mul_of_pos_right han hsp;have hs63:2^s<=2^63:=Nat.pow_le_pow_right (by omega) (by omega);have ha'':18446744073709551616^n*2^s<=18446744073709551616^n*9223372036854775808:=Nat.mul_le_mul_left _ hs63;refine⟨hs64,hlen,?_,?_,hmn,?_⟩
 . have hd:(L (b*2^s)).getD (m-1) 0=b*2^s/18446744073709551616^(m-1)%18446744073709551616:=M.dig_get (by omega) _ _;rw[hd,Nat.mod_eq_of_lt (Nat.div_lt_of_lt_mul hhi),Nat.le_div_iff_mul_le hPp,Nat.mul_comm];exact hlo
 . refine M.len_of_lt (by omega) _ _ ?_;rw[Nat.pow_succ];have:18446744073709551616^n*9223372036854775808<=18446744073709551616^n*18446744073709551616:=Nat.mul_le_mul_left _ (by omega);omega
 . have h1:18446744073709551616^(m-1)*9223372036854775808*18446744073709551616^(n+1-m)<=b*2^s*18446744073709551616^(n+1-m):=Nat.mul_le_mul_right _ hlo
   have h2:18446744073709551616^(m-1)*9223372036854775808*18446744073709551616^(n+1-m)=18446744073709551616^n*9223372036854775808:=by
    rw[Nat.mul_right_comm,<-Nat.pow_add];congr 2;omega
   omega

theorem QM (xs:List Nat)(k:Nat):V (xs++List.replicate k 0)=V xs:=by
 unfold V;rw[M.dW,M.dL,Nat.mul_zero,Nat.add_zero]

theorem yD (ao bo:Option Addr)(n m c d:Nat)(a b:Nat)(w:World)(hl:(L a).length=n)(hm:(L b).length=m)(hm2:2<=m)(hab:b<=a)(hn:n<=1048576)(hr:Rd w ao (L a))(hr2:Rd w bo (L b)):
 Calls Tryz.prog 148 #[.slice ao n c,.slice bo m d] w fun e w'=>RetD w w' e (L (a/b)) (L (a%b)):=by
 obtain⟨i0,hi,hz0,hz1,hz2⟩:=info_parts Tryz.infoU
 have hmk:=fun(wx:World)=>run_make (P:=Tryz.prog) wx 87 25 i0 (.int .u64 0) Tryz.underlying87 hi hz0 .i64 .i64 ((n+1:Nat):Int) ((n+1:Nat):Int) (by omega) (Int.le_refl _) (by rw[hz2];omega) (by omega)
 have es:((n+1:Nat):Int)=(n:Int)+1:=by omega
 rw[es]at hmk;have et:((n:Int)+1).toNat=n+1:=by omega
 rw[et]at hmk;clear es et;have hcmp:=lK hab;have hne1:((m:Int)==1)=false:=by simp;omega
 obtain⟨t,et⟩:∃t,t=(L b).getD (m-1) 0:=⟨_,rfl⟩;have htb:t<18446744073709551616:=by rw[et];exact F64.get (gP b) _
 obtain⟨s,es⟩:∃s,s=64-aB t:=⟨_,rfl⟩;obtain⟨hs64,hbl',htop,hal',hmn,hlt⟩:=IP a b n m s hl hm hm2 hab (by rw[es,et]);obtain⟨m1,em1⟩:∃x,x=m-1:=⟨_,rfl⟩;have i1:(m:Int)-1=(m1:Int):=by omega
 have j1:(m1:Int)<(m:Int):=by omega
 rw[<-em1]at et
 have hb0:0<b:=by
  rcases Nat.eq_zero_or_pos b with rfl|hp
  . rw[show L 0=[]from M.aH _]at hm;simp at hm;omega
  . exact hp
 have hsp:0<2^s:=Nat.pow_pos (by omega);have hq:a*2^s/(b*2^s)=a/b:=Nat.mul_div_mul_right _ _ hsp;have hrm:a*2^s%(b*2^s)=a%b*2^s:=Nat.mul_mod_mul_right _ _ _;have ET:=hid et;have ES:=hid es;have EM1:=hid em1;have HTOP:=hid htop;have HLT:=hid hlt;have HQ:=hid hq;have HRM:=hid hrm;have HSP:=hid hsp;clear et es em1 htop hlt hq hrm hsp;obtain⟨b2,o2,hbo,hcl⟩:=hr2 (by omega);have htc0:=hcl m1 (by have:=EM1.out;omega);rw[<-ET.out]at htc0;subst hbo;go_enter Tryz.func148,Tryz.ntmps148;go_wp2_with fail;refine(dU ao _ n m c d a b _ hl hm (by omega) (by omega) hr hr2).mono ?_;rintro e w1 ⟨rfl,q1,hw1⟩;have hb1:Below w.heap.size w w1:=by rw[hw1];exact below_drewN (Below.refl w.heap.size w) q1
 have htc:w1.cell? ⟨b2,o2+m1,none⟩=some (.int .u64 (t:Int)):=by rw[hw1];exact htc0
 clear hw1 htc0 hcl;go_wp2_with fail;refine(LH t _ htb s ES.out).mono ?_;rintro e w2 ⟨rfl,rfl⟩;have hB3:=fL w2 (n+1);have hb3:Below w2.heap.size w2 (w2.alloc (.cells (madeCells #[Value.int .u64 0] (n+1)) 25)):=(Below.refl _ _).alloc (Nat.le_refl _) _;have hbw3:=hb1.trans (hb3.mono hb1.size);have HB3:=hid hB3;have HBW3:=hid hbw3;clear hB3 hb3 hbw3;go_wp2_with fail;have hB3:=HB3.out;have hbw3:=HBW3.out;generalize w2.alloc (.cells (madeCells #[Value.int .u64 0] (n+1)) 25)=w3 at hB3 hbw3|-;refine(aS ao n c s a _ hl (by omega) (by omega) (hr.below hbw3)).mono ?_;rintro e w4 ⟨xa,xc,rfl,hox,hb4⟩;have hB4:=hB3.keep hb4;have hbw4:=hbw3.trans (hb4.mono hbw3.size);obtain⟨w5,hcp,hg5,hgr5⟩:=oV 87 Tryz.underlying87 _ w2.heap.size (n+1) (n+1) _ hB4 xa (L (a*2^s)) _ xc rfl (Rd.own hox) hal' (by simp[U];exact hal')
 have hB5:Blk w5 w2.heap.size (L (a*2^s)++List.replicate (n+1-(L (a*2^s)).length) 0):=by
  have e:U (L (a*2^s))++(U (List.replicate (n+1) 0)).drop (L (a*2^s)).length=U (L (a*2^s)++List.replicate (n+1-(L (a*2^s)).length) 0):=by simp[U]
  rw[e]at hg5;exact hg5
 have hbw5:Below w.heap.size w w5:=hbw4.grown hgr5 hbw4.size (fun k h=>by cases h;exact hb1.size)
 have HB5:=hid hB5;have HBW5:=hid hbw5;clear hB5 hbw5 hg5 hB4 hB3 hbw3 HB3 HBW3 htc;go_wp2_with fail;refine(aS _ m d s b _ hm (by omega) (by omega) (hr2.below HBW5.out)).mono ?_;rintro e w6 ⟨ya,yc,rfl,hoy,hb6⟩;have hB6:=HB5.out.keep hb6;have hbw6:=HBW5.out.trans (hb6.mono HBW5.out.size);have hg5lt:=HB5.out.lt;obtain⟨zs,ezs⟩:∃zs,zs=L (a*2^s)++List.replicate (n+1-(L (a*2^s)).length) 0:=⟨_,rfl⟩;have hzl:zs.length=n+1:=by rw[ezs];simp;omega
 have hzf:F64 zs:=by
  rw[ezs];intro x hx;rcases List.mem_append.1 hx with hx|hx
  . exact gP _ x hx
  . simp at hx;omega
 have hzv:V zs=a*2^s:=by rw[ezs,QM,V_L]
 rw[<-ezs]at hB6;clear ezs
 have hsepy:0<(L (b*2^s)).length->∀b3 o3,ya=some ⟨b3,o3,none⟩->b3≠w2.heap.size:=by
  intro h0 b3 o3 e;obtain⟨g3,e3,hg3⟩:=sL hoy h0;rw[e3]at e;cases e;omega
 rw[hbl']at hoy|-;have HB6:=hid hB6;have HBW6:=hid hbw6;clear hB6 hbw6 HB5 HBW5 hmk;go_wp2_with fail;refine(EG w2.heap.size (n+1) m (n+1-m) ya yc zs (L (b*2^s)) _ HB6.out hzf hzl (by omega) hbl' hm2 (by omega) (by omega) (gP _) (Rd.own hoy) hsepy HTOP.out (by rw[hzv,V_L];exact HLT.out)).mono ?_;rw[hzv,V_L];rintro e w7 ⟨rfl,hg7,qs,cur,hBq,hql,hqf,hqv,hBc,hcl',hcf,hcv⟩;rw[HQ.out]at hqv;rw[HRM.out]at hcv
 have hbw7:Below w.heap.size w w7:=HBW6.out.grown hg7 HBW6.out.size (fun k h=>by cases h;exact hb1.size)
 have hq6:=hBq.lt;have hl6:w.heap.size<=w6.heap.size:=HBW6.out.size;clear hg7 HB6 HBW6 hoy hsepy;go_wp2_with fail;refine(dI _ (n+1-m) (n+1-m) qs _ hql (Nat.le_refl _) (by omega) hqf hBq.rd0).mono ?_;rw[hqv];rintro e w8 ⟨rfl,rfl⟩;go_wp2_with fail;refine(dI _ (n+1) (n+1) cur _ hcl' (Nat.le_refl _) (by omega) hcf hBc.rd0).mono ?_;rw[hcv];rintro e w9 ⟨rfl,rfl⟩;have hcl9:=nL cur hcf;have hrd9:=hBc.rd0.trim hcf;rw[hcv]at hcl9 hrd9
 have hlr:(L (a%b*2^s)).length<=m:=by
  rcases Nat.lt_or_ge m (L (a%b*2^s)).length with h|h
  . have h1:b*2^s<a%b*2^s:=M.dF (B:=18446744073709551616) (by omega) (by rw[show(M.dig 18446744073709551616 (b*2^s)).length=m from hbl'];exact h);have h2:a%b*2^s<=b*2^s:=Nat.mul_le_mul_right _ (Nat.le_of_lt (Nat.mod_lt _ hb0));omega
  . exact h
 go_wp2_with fail;refine(sP _ _ (n+1) s (a%b*2^s) _ rfl (by omega) (by omega) (by omega) hrd9).mono ?_;rw[Nat.mul_div_cancel _ HSP.out];rintro e w10 ⟨za,zc,rfl,hoz,hb10⟩;have o1:=(hBq.ownTrim hqf (by omega)).keep hb10;rw[hqv,hql]at o1;have o2:=Own.of hoz;go_wp2_with fail
 go_ret2
 exact⟨_,_,_,_,_,rfl,hbw7.size,hb10.size,o1.widen hl6 (by omega),o2,hbw7.trans (hb10.mono hbw7.size)⟩

theorem rP (ao bo:Option Addr)(n m c d:Nat)(a b:Nat)(w:World)(hl:(L a).length=n)(hm:(L b).length=m)(hb:0<b)(hn:n<=1048576)(hn2:m<=1048576)(hr:Rd w ao (L a))(hr2:Rd w bo (L b)):
 Calls Tryz.prog 148 #[.slice ao n c,.slice bo m d] w fun e w'=>RetD w w' e (L (a/b)) (L (a%b)):=by
 rcases Nat.lt_or_ge a b with h|h
 . exact DX ao bo n m c d a b w hl hm h hn hn2 hr hr2
 . rcases Nat.lt_or_ge m 2 with h2|h2
   . have h0:m≠0:=by
      intro e;have:=sZ b 0 (by omega)
      simp at this
      omega
     have e:m=1:=by omega
     subst e;exact zZ ao bo n c d a b w hl hm h hn hr hr2
   . exact yD ao bo n m c d a b w hl hm h2 h hn hr hr2

def P8 (w w':World)(e:Ending)(q r:List Nat):Prop:=
 ∃ao ca bo cb,e=.returned (.tuple #[.slice ao q.length ca,.slice bo r.length cb])/\Rd w' ao q/\Rd w' bo r/\Below w.heap.size w w'

def RS (w w':World)(e:Ending)(q r:List Nat):Prop:=
 ∃ao ca bo cb,e=.returned (.tuple #[.slice ao q.length ca,.slice bo r.length cb])/\Rd w' ao q/\Rd w' bo r/\Below w.heap.size w w'/\q.length<=ca

structure BitI (a b t:Nat)(qs:List Nat)(R:Nat):Prop where
 sum:a=b*X qs+R
 lt:R<b*2^t
 top:∃y,qs.getD (t/32) 0=y*2^(t%32)
 low:∀j,j<t/32->qs.getD j 0=0

theorem BitI.le_a {a b t:Nat}{qs:List Nat}{R:Nat}(h:BitI a b t qs R):R<=a:=by have:=h.sum;omega

theorem BitI.place {a b i:Nat}{qs:List Nat}{R:Nat}(h:BitI a b (i+1) qs R):(∃y,qs.getD (i/32) 0=y*2^(i%32+1))/\∀j,j<i/32->qs.getD j 0=0:=by
 rcases Nat.lt_or_ge (i%32) 31 with hp|hp
 . obtain⟨y,hy⟩:=h.top;rw[show(i+1)/32=i/32 by omega,show(i+1)%32=i%32+1 by omega]at hy
   exact⟨⟨y,hy⟩,fun j hj=>h.low j (by omega)⟩
 . exact⟨⟨0,by rw[Nat.zero_mul];exact h.low _ (by omega)⟩,fun j hj=>h.low j (by omega)⟩

theorem BitI.skip {a b i:Nat}{qs:List Nat}{R:Nat}(h:BitI a b (i+1) qs R)(hlt:R<b*2^i):BitI a b i qs R:=by
 obtain⟨⟨y,hy⟩,hl⟩:=h.place;exact⟨h.sum,hlt,⟨y*2,by rw[hy,Nat.pow_succ,Nat.mul_assoc,Nat.mul_comm 2]⟩,hl⟩

theorem I6 {x p:Nat}(hx:x<4294967296)(hp:p<32)(h:∃y,x=y*2^(p+1)):2^p|||x=x+2^p/\x+2^p<4294967296:=by
 obtain⟨y,rfl⟩:=h;have h1:2^p<2^(p+1):=Nat.pow_lt_pow_right (by omega) (by omega)
 constructor
 . rw[kG (2^p) y (p+1) h1,Nat.add_comm]
 . have hKP:2^(32-(p+1))*2^(p+1)=4294967296:=by rw[<-Nat.pow_add,show 32-(p+1)+(p+1)=32 by omega]
   have h2:y<2^(32-(p+1)):=by
    have:y*2^(p+1)<2^(32-(p+1))*2^(p+1):=by rw[hKP];exact hx
    exact Nat.lt_of_mul_lt_mul_right this
   have h3:(y+1)*2^(p+1)<=2^(32-(p+1))*2^(p+1):=Nat.mul_le_mul_right _ h2;rw[hKP,Nat.add_mul]at h3;omega

theorem BitI.set {a b i:Nat}{qs:List Nat}{R:Nat}(h:BitI a b (i+1) qs R)(hle:b*2^i<=R)(hl:i/32<qs.length):BitI a b i (qs.set (i/32) (qs.getD (i/32) 0+2^(i%32))) (R-b*2^i):=by
 obtain⟨⟨y,hy⟩,hlow⟩:=h.place;have hs:=M.jU 4294967296 (i/32) qs (qs.getD (i/32) 0+2^(i%32)) hl
 have e2:4294967296^(i/32)*2^(i%32)=2^i:=by
  rw[show(4294967296:Nat)=2^32 from rfl,<-Nat.pow_mul,<-Nat.pow_add];congr 1;omega
 rw[Nat.mul_add,e2]at hs
 refine⟨?_,?_,⟨y*2+1,?_⟩,fun j hj=>?_⟩
 . have h1:X (qs.set (i/32) (qs.getD (i/32) 0+2^(i%32)))=X qs+2^i:=by unfold X;omega
   rw[h1,Nat.mul_add];have:=h.sum;omega
 . have:=h.lt;rw[Nat.pow_succ,<-Nat.mul_assoc]at this;omega
 . rw[M.bQ _ _ _ hl,hy,Nat.pow_succ,Nat.add_mul,Nat.mul_assoc,Nat.mul_comm 2,Nat.one_mul]
 . rw[M.bO _ _ _ _ (by omega)];exact hlow j hj

theorem BitI.start {a b k:Nat}(m:Nat)(h:a<b*2^(k+1)):BitI a b (k+1) (List.replicate m 0) a:=by
 have h0:∀j,(List.replicate m 0).getD j 0=0:=fun j=>by rw[List.getD_eq_getElem?_getD,List.getElem?_replicate];split<;>rfl
 refine⟨?_,h,⟨0,by rw[h0,Nat.zero_mul]⟩,fun j _=>h0 j⟩
 unfold X;rw[M.dL];omega

theorem BitI.done {a b:Nat}{qs:List Nat}{R:Nat}(h:BitI a b 0 qs R):X qs=a/b/\R=a%b:=by
 have h1:=h.sum;have h2:=h.lt;rw[Nat.pow_zero,Nat.mul_one]at h2;rw[h1];exact⟨by rw[Nat.mul_add_div (by omega),Nat.div_eq_of_lt h2,Nat.add_zero],by rw[Nat.mul_add_mod,Nat.mod_eq_of_lt h2]⟩

theorem yO (b i:Nat):b*2^(i+1)/2=b*2^i:=by rw[Nat.pow_succ,<-Nat.mul_assoc,Nat.mul_div_cancel _ (by omega)]

def bH (ao:Option Addr)(xs:List Nat)(g:Nat):Prop:=0<xs.length->∀b2 o2,ao=some ⟨b2,o2,none⟩->b2≠g

theorem Rd.apart {w w':World}{bo:Option Addr}{ys:List Nat}{g:Nat}(h:Rd w bo ys)(hg:w.grownBy w' (some g))(hsep:bH bo ys g):Rd w' bo ys:=by
 intro hp;obtain⟨b,off,e,hc⟩:=h hp
 exact⟨b,off,e,fun i hi=>hg.cell (hc i hi) (by simpa using hsep hp b off e)⟩

theorem gT {w:World}{base cap g:Nat}{ao:Option Addr}{xs:List Nat}(h:w.ownsRow base 25 1 (.slice ao xs.length cap) xs.length (U xs))(hg:g<base):bH ao xs g:=by
 intro h0 b2 o2 e;obtain⟨g3,e3,hg3⟩:=sL h h0;rw[e3]at e;cases e;omega

theorem nS {w:World}{ao:Option Addr}{xs:List Nat}{g:Nat}(h:Rd w ao xs)(hg:w.heap.size<=g):bH ao xs g:=by
 intro h0 b2 o2 e;obtain⟨b,off,e2,hc⟩:=h h0;have h1:b<w.heap.size:=World.block_lt_of_cell? w _ (hc 0 h0);rw[e2]at e;cases e;omega

theorem qD (ao bo:Option Addr)(n m c d:Nat)(a b:Nat)(w:World)(hl:(D a).length=n)(hm:(D b).length=m)(hb:0<b)(hn:n<=2600)(hn2:m<=2600)(hcn:n<=c)(hr:Rd w ao (D a))(hr2:Rd w bo (D b)):
 Calls Tryz.prog 58 #[.slice ao n c,.slice bo m d] w fun e w'=>RS w w' e (D (a/b)) (D (a%b)):=by
 obtain⟨i0,hi,hz0,hz1,hz2⟩:=info_parts Tryz.infoU;obtain⟨x,ex⟩:∃x,x=aB a:=⟨_,rfl⟩;obtain⟨y,ey⟩:∃x,x=aB b:=⟨_,rfl⟩
 have hbits:∀v l,(D v).length=l->aB v<=32*l:=by
  intro v l hv;refine bX v (32*l) ?_;have h1:=M.j5 (B:=4294967296) (by omega) v;rw[show(M.dig 4294967296 v).length=l from hv,show(4294967296:Nat)=2^32 from rfl,<-Nat.pow_mul]at h1;exact h1
 have hxb:x<=83200:=by have:=hbits a n hl;omega
 have hyb:y<=83200:=by have:=hbits b m hm;omega
 clear hbits;have ha1:a<2^x:=by rw[ex];exact dD a
 have hb1:2^(y-1)<=b:=by rw[ey];exact eF b hb
 have hy0:0<y:=by rw[ey];exact dJ b hb
 have EX:=hid ex;have EY:=hid ey;have HA1:=hid ha1;have HB1:=hid hb1;clear ex ey ha1 hb1
 by_cases hxy:x<y
 . have hab:a<b:=by
    have h1:2^x<=2^(y-1):=Nat.pow_le_pow_right (by omega) (by omega);have:=HA1.out;have:=HB1.out;omega
   rw[Nat.div_eq_of_lt hab,Nat.mod_eq_of_lt hab,show D 0=[]from M.aH _];have hneg:(x:Int)-(y:Int)<0:=by omega
   go_enter Tryz.func58,Tryz.ntmps58;go_wp2_with fail;refine(aW ao n c a _ hl (by omega) hr x EX.out).mono ?_;rintro e w1 ⟨rfl,rfl⟩;go_wp2_with fail;refine(aW bo m d b _ hm (by omega) hr2 y EY.out).mono ?_;rintro e w2 ⟨rfl,rfl⟩;go_wp2_with fail;refine(bZ 4294967296 (by omega) ao n c (D a) _ hl hcn (by omega) (iD a) hr).mono ?_;rw[show M.val 4294967296 (D a)=a from X_D a];rintro e w3 ⟨xa,xc,rfl,hox,hb3⟩;go_wp2_with fail
   go_ret2
   exact⟨none,0,xa,xc,rfl,Rd.nil _ _,Rd.own hox,hb3,Nat.le_refl _⟩
 . obtain⟨k,ek⟩:∃k,k=x-y:=⟨_,rfl⟩;have hkI:(x:Int)-(y:Int)=(k:Int):=by omega
   have hneg:¬(k:Int)<0:=by omega
   have hkb:k<=83200:=by omega
   obtain⟨kj,ekj⟩:∃j,j=k/32:=⟨_,rfl⟩;have hkjI:(k:Int)/32=(kj:Int):=by omega
   have hmk:=fun(wx:World)=>run_make (P:=Tryz.prog) wx 56 25 i0 (.int .u64 0) Tryz.underlying56 hi hz0 .i64 .i64 ((kj+1:Nat):Int) ((kj+1:Nat):Int) (by omega) (Int.le_refl _) (by rw[hz2];omega) (by omega)
   have es:((kj+1:Nat):Int)=(kj:Int)+1:=by omega
   rw[es]at hmk;have et:((kj:Int)+1).toNat=kj+1:=by omega
   rw[et]at hmk;clear es et;have EK:=hid ek;have EKJ:=hid ekj;clear ek ekj;go_enter Tryz.func58,Tryz.ntmps58;go_wp2_with fail;refine(aW ao n c a _ hl (by omega) hr x EX.out).mono ?_;rintro e w1 ⟨rfl,rfl⟩;go_wp2_with fail;refine(aW bo m d b _ hm (by omega) hr2 y EY.out).mono ?_;rintro e w2 ⟨rfl,rfl⟩;go_wp2_with fail;refine(bZ 4294967296 (by omega) ao n c (D a) _ hl hcn (by omega) (iD a) hr).mono ?_;rw[show M.val 4294967296 (D a)=a from X_D a];rintro e w3 ⟨xa,xc,rfl,hox,hb3⟩;have hB4:=fL w3 (kj+1);have hb4:Below w3.heap.size w3 (w3.alloc (.cells (madeCells #[Value.int .u64 0] (kj+1)) 25)):=(Below.refl _ _).alloc (Nat.le_refl _) _;have HB4:=hid hB4;have Hb4:=hid hb4;clear hB4 hb4;go_wp2_with fail;have hB4:=HB4.out;have hb4:=Hb4.out;generalize w3.alloc (.cells (madeCells #[Value.int .u64 0] (kj+1)) 25)=w4 at hB4 hb4|-;have hbw4:=hb3.trans (hb4.mono hb3.size);refine(aN bo m d k b _ hm (by omega) (by omega) (hr2.below hbw4)).mono ?_;rintro e w5 ⟨da,dc,rfl,hod,hb5⟩;have hbw5:=hbw4.trans (hb5.mono hbw4.size);have hB5:=hB4.keep hb5;have hrr:=((Rd.own hox).below hb4).below hb5;have hrd:=Rd.own hod;have har:bH xa (D a) w3.heap.size:=nS (Rd.own hox) (Nat.le_refl _);have had:bH da (D (b*2^k)) w3.heap.size:=gT hod (by have:=hB4.lt;omega)
   have hab:a<b*2^(k+1):=by
    have h1:=HA1.out;have h2:=HB1.out;have h3:2^(y-1)*2^(k+1)<=b*2^(k+1):=Nat.mul_le_mul_right _ h2;rw[<-Nat.pow_add,show y-1+(k+1)=x by have:=EK.out;omega]at h3;omega
   have hst:=BitI.start (kj+1) hab;have hdd:=yO b k
   have hlen:∀v,v<2^x->(D v).length<=2600:=by
    intro v hv;obtain⟨NN,eNN⟩:∃NN,NN=2600:=⟨_,rfl⟩;rw[<-eNN];refine M.len_of_lt (B:=4294967296) (by omega) _ _ ?_;rw[show(4294967296:Nat)=2^32 from rfl,<-Nat.pow_mul];exact Nat.lt_of_lt_of_le hv (Nat.pow_le_pow_right (by omega) (by omega))
   have hln:∀R,R<=a->(D R).length<=2600:=fun R h=>hlen R (Nat.lt_of_le_of_lt h HA1.out)
   have hldd:∀i,i<=k->(D (b*2^i)).length<=2600:=by
    intro i hi;refine hlen _ ?_;have h1:b<2^y:=by rw[EY.out];exact dD b
    have h2:b*2^i<2^y*2^i:=Nat.mul_lt_mul_of_pos_right h1 (Nat.pow_pos (by omega));have h3:2^y*2^i<=2^x:=by rw[<-Nat.pow_add];exact Nat.pow_le_pow_right (by omega) (by have:=EK.out;omega)
    omega
   have HAR:=hid har;have HAD:=hid had;have HST:=hid hst;have HLN:=hid hln;have HLD:=hid hldd;clear har had hab hst hlen hln hldd;have HB5:=hid hB5;have HBW5:=hid hbw5;have HRR:=hid hrr;have HRD:=hid hrd;clear hmk HB4 Hb4 hB4 hb4 hbw4 hbw5 hB5 hrr hrd hox hod;go_wp2_with fail;obtain⟨g,eg⟩:∃g,g=w3.heap.size:=⟨_,rfl⟩;have hgw:w2.heap.size<=w3.heap.size:=hb3.size
   go_loopw [7,9,10] (fun rs dv i wr=>∃(t:Nat)(qs:List Nat)(R:Nat)(ra da:Option Addr)(rc dc:Nat),t<=k+1/\i=.int .i64 ((t:Int)-1)/\rs=.slice ra (D R).length rc/\Rd wr ra (D R)/\dv=.slice da (D (b*2^t/2)).length dc/\Rd wr da (D (b*2^t/2))/\Blk wr w3.heap.size qs/\qs.length=kj+1/\F32 qs/\BitI a b t qs R/\bH ra (D R) w3.heap.size/\bH da (D (b*2^t/2)) w3.heap.size/\Below w2.heap.size w2 wr) (fun _ _ i _=>(intOf i+1).toNat)
   case atStart=>
    refine⟨k+1,List.replicate (kj+1) 0,a,xa,da,xc,dc,Nat.le_refl _,by go_num,rfl,HRR.out,?_,?_,HB5.out,by simp,fun x hx=>by simp at hx;omega,?_,HAR.out,?_,HBW5.out⟩
    . rw[hdd]
    . rw[hdd];exact HRD.out
    . exact HST.out
    . rw[hdd];exact HAD.out
   case round=>
    obtain⟨t,qs,R,ra,da,rc,dc,ht,rfl,rfl,hrR,rfl,hrD,hBq,hql,hqf,hI,hAR,hAD,hbl⟩:=hrel
    by_cases ht0:0<t
    . obtain⟨i,rfl⟩:∃i,t=i+1:=⟨t-1,by omega⟩;have e1:(((i+1:Nat):Int)-1)=(i:Int):=by omega
      rw[e1];rw[yO]at hrD hAD|-;have hlr:(D R).length<=2600:=HLN.out R (hI.le_a);have hld:(D (b*2^i)).length<=2600:=HLD.out i (by omega);obtain⟨j,ej⟩:∃j,j=i/32:=⟨_,rfl⟩;obtain⟨p,ep⟩:∃p,p=i%32:=⟨_,rfl⟩;have ijI:(i:Int)/32=(j:Int):=by omega
      have ipI:(i:Int)%32=(p:Int):=by omega
      have hjb:j<kj+1:=by have:=EKJ.out;omega
      have hjI:(j:Int)<(kj:Int)+1:=by omega
      have hpb:p<32:=by omega
      have EJ:=hid ej;have EP:=hid ep;clear ej ep;have hge0:(0:Int)<=(i:Int):=by omega
      obtain⟨dd,edd⟩:∃dd,dd=b*2^i:=⟨_,rfl⟩;rw[<-edd]at hrD hAD hld|-;have EDD:=hid edd;clear edd
      by_cases hcm:dd<=R
      . have hcmp:=lK hcm;have HI:=hid hI;clear hI;obtain⟨x0,ex0⟩:∃x0,x0=qs.getD j 0:=⟨_,rfl⟩;have hx0:x0<4294967296:=by rw[ex0];exact hqf.get j
        have hpl:=HI.out.place;rw[<-EJ.out,<-EP.out,<-ex0]at hpl;obtain⟨hor,hob⟩:=I6 hx0 hpb hpl.1;have hset:=HI.out.set (by rw[<-EDD.out];exact hcm) (by rw[<-EJ.out];omega);rw[<-EJ.out,<-EP.out,<-ex0,<-EDD.out]at hset;obtain⟨tp,etp⟩:∃tp,tp=2^p:=⟨_,rfl⟩;rw[<-etp]at hor hob hset;have wsh:((2:Int)^p)=(tp:Int):=by rw[fK,etp]
        obtain⟨x1,ex1⟩:∃x1,x1=x0+tp:=⟨_,rfl⟩
        have wor:bits BinOp.or IntKind.u64 (x0:Int) (tp:Int)=(x1:Int):=by
         rw[cT _ _ (by omega) (by omega),hor,ex1]
        rw[<-ex1]at hset hob;have htpb:tp<18446744073709551616:=by omega
        have HSET:=hid hset;have EX0:=hid ex0;have HOB:=hid hob;clear hset ex0 hob hor hpl etp ex1;go_wp2_with fail;refine(dM ra da _ _ rc dc R dd _ rfl rfl (by omega) (by omega) hrR hrD).mono ?_;rintro e v1 ⟨rfl,rfl⟩;go_wp2_with fail;refine(gU ra da _ _ rc dc R dd _ rfl rfl hcm (by omega) hrR hrD).mono ?_;rintro e v2 ⟨sa,sc,rfl,hos,hbs⟩;have hBq2:=hBq.keep hbs;have hcq:=hBq2.cell j (by omega);rw[<-EX0.out]at hcq;have hfq:=hBq2.frozen j;have hbl2:=hbl.trans (hbs.mono hbl.size);have hgs:v2.grownBy (v2.setCell ⟨w3.heap.size,j,none⟩ (.int .u64 (x1:Int))) (some w3.heap.size):=aD _ _ _ _;have hBq3:Blk (v2.setCell ⟨w3.heap.size,j,none⟩ (.int .u64 (x1:Int))) w3.heap.size (qs.set j x1):=hBq2.set _ _ _ rfl;have hbl3:Below w2.heap.size w2 (v2.setCell ⟨w3.heap.size,j,none⟩ (.int .u64 (x1:Int))):=hbl2.setCell (by simpa using hgw) _;have haps:bH sa (D (R-dd)) w3.heap.size:=gT hos (by have:=hBq.lt;omega);have hrs3:=(Rd.own hos).apart hgs haps;have hrd3:=(hrD.below hbs).apart hgs hAD;have HBq3:=hid hBq3;have Hbl3:=hid hbl3;have Hrs3:=hid hrs3;have Hrd3:=hid hrd3;clear hBq3 hbl3 hrs3 hrd3 hBq2 hgs hos hbs hbl2;go_wp2_with fail;have hBq3:=HBq3.out;have hbl3:=Hbl3.out;have hrs3:=Hrs3.out;have hrd3:=Hrd3.out;generalize v2.setCell ⟨w3.heap.size,j,none⟩ (.int .u64 (x1:Int))=v3 at hBq3 hbl3 hrs3 hrd3|-;clear HBq3 Hbl3 Hrs3 Hrd3 hcq hfq;refine(gI da _ dc 1 dd _ rfl (by omega) (by omega) hrd3).mono ?_;rw[Nat.pow_one];rintro e v4 ⟨ta,tc,rfl,hot,hbt⟩;have hbl4:=hbl3.trans (hbt.mono hbl3.size);have hBq4:=hBq3.keep hbt;have hrs4:=hrs3.below hbt;have hrt4:=Rd.own hot;have hapt:bH ta (D (dd/2)) w3.heap.size:=gT hot (by have:=hBq3.lt;omega);have Hbl4:=hid hbl4;have HBq4:=hid hBq4;have Hrs4:=hid hrs4;have Hrt4:=hid hrt4;have Hapt:=hid hapt;have Haps:=hid haps;clear hbl4 hBq4 hrs4 hrt4 hapt haps hot hbt hBq3 hbl3 hrs3 hrd3;go_wp2_with fail;go_roundw
        case rel=>
         have hfs:F32 (qs.set j x1):=by
          intro v hv;rcases List.mem_or_eq_of_mem_set hv with hv|rfl
          . exact hqf v hv
          . exact HOB.out
         have R1:∃(t:Nat)(qs:List Nat)(R':Nat)(ra da:Option Addr)(rc dc:Nat),t<=k+1/\Value.int .i64 ((i:Int)-1)=.int .i64 ((t:Int)-1)/\Value.slice sa (D (R-dd)).length sc=.slice ra (D R').length rc/\Rd v4 ra (D R')/\Value.slice ta (D (dd/2)).length tc=.slice da (D (b*2^t/2)).length dc/\Rd v4 da (D (b*2^t/2))/\Blk v4 w3.heap.size qs/\qs.length=kj+1/\F32 qs/\BitI a b t qs R'/\bH ra (D R') w3.heap.size/\bH da (D (b*2^t/2)) w3.heap.size/\Below w2.heap.size w2 v4:=by
          refine⟨i,qs.set j x1,R-dd,sa,ta,sc,tc,by omega,rfl,rfl,Hrs4.out,?_,?_,HBq4.out,by rw[List.length_set];exact hql,hfs,HSET.out,Haps.out,?_,Hbl4.out⟩
          . rw[<-EDD.out]
          . rw[<-EDD.out];exact Hrt4.out
          . rw[<-EDD.out];exact Hapt.out
         first|exact R1|((repeat apply Exists.intro);exact⟨R1,rfl⟩)
        case measure=>simp[intOf]<;>omega
      . have hcmp:=yX (show R<dd by omega);have hset:=hI.skip (by rw[<-EDD.out];omega);have HSET:=hid hset;clear hset hI;go_wp2_with fail;refine(dM ra da _ _ rc dc R dd _ rfl rfl (by omega) (by omega) hrR hrD).mono ?_;rintro e v3 ⟨rfl,rfl⟩;go_wp2_with fail;refine(gI da _ dc 1 dd _ rfl (by omega) (by omega) hrD).mono ?_;rw[Nat.pow_one];rintro e v4 ⟨ta,tc,rfl,hot,hbt⟩;have hbl4:=hbl.trans (hbt.mono hbl.size);have hBq4:=hBq.keep hbt;have hrs4:=hrR.below hbt;have hrt4:=Rd.own hot;have hapt:bH ta (D (dd/2)) w3.heap.size:=gT hot (by have:=hBq.lt;omega);have Hbl4:=hid hbl4;have HBq4:=hid hBq4;have Hrs4:=hid hrs4;have Hrt4:=hid hrt4;have Hapt:=hid hapt;clear hbl4 hBq4 hrs4 hrt4 hapt hot hbt;go_wp2_with fail;go_roundw
        case rel=>
         have R1:∃(t:Nat)(qs:List Nat)(R':Nat)(ra' da:Option Addr)(rc' dc:Nat),t<=k+1/\Value.int .i64 ((i:Int)-1)=.int .i64 ((t:Int)-1)/\Value.slice ra (D R).length rc=.slice ra' (D R').length rc'/\Rd v4 ra' (D R')/\Value.slice ta (D (dd/2)).length tc=.slice da (D (b*2^t/2)).length dc/\Rd v4 da (D (b*2^t/2))/\Blk v4 w3.heap.size qs/\qs.length=kj+1/\F32 qs/\BitI a b t qs R'/\bH ra' (D R') w3.heap.size/\bH da (D (b*2^t/2)) w3.heap.size/\Below w2.heap.size w2 v4:=by
          refine⟨i,qs,R,ra,ta,rc,tc,by omega,rfl,rfl,Hrs4.out,?_,?_,HBq4.out,hql,hqf,HSET.out,hAR,?_,Hbl4.out⟩
          . rw[<-EDD.out]
          . rw[<-EDD.out];exact Hrt4.out
          . rw[<-EDD.out];exact Hapt.out
         first|exact R1|((repeat apply Exists.intro);exact⟨R1,rfl⟩)
        case measure=>simp[intOf]<;>omega
    . have e:t=0:=by omega
      subst e;obtain⟨hq,hR⟩:=hI.done;have hge0:¬(0:Int)<=((0:Nat):Int)-1:=by omega
      have hrdq:=hBq.rd0;have HQ:=hid hq;have HR:=hid hR;clear hI hq hR hrD hAD;go_wp2_with fail;refine(bZ 4294967296 (by omega) _ (kj+1) (kj+1) qs _ hql (Nat.le_refl _) (by omega) hqf hrdq).mono ?_;rw[show M.val 4294967296 qs=a/b from HQ.out];rintro e v1 ⟨qa,qc,rfl,hoq,hbq⟩;go_wp2_with fail
      go_ret2
      rw[<-HR.out];exact⟨qa,qc,ra,rc,rfl,Rd.own hoq,hrR.below hbq,hbl.trans (hbq.mono hbl.size),bF hoq⟩

theorem rK (ao bo:Option Addr)(n m c d:Nat)(a b:Nat)(w:World)(hl:(D a).length=n)(hm:(D b).length=m)(hb:0<b)(hn:n<=2600)(hn2:m<=2600)(hcn:n<=c)(hr:Rd w ao (D a))(hr2:Rd w bo (D b)):
 Calls Tryz.prog 58 #[.slice ao n c,.slice bo m d] w fun e w'=>P8 w w' e (D (a/b)) (D (a%b)):=
 (qD ao bo n m c d a b w hl hm hb hn hn2 hcn hr hr2).mono fun e w' ⟨qa,qc,ra,rc,he,h1,h2,h3,_⟩=>⟨qa,qc,ra,rc,he,h1,h2,h3⟩

theorem FG (ao bo:Option Addr)(n m c d:Nat)(a b:Nat)(w:World)(hl:(D a).length=n)(hm:(D b).length=m)(hb:0<b)(hn:n<=2400)(hn2:m<=2400)(hcn:n<=c)(hr:Rd w ao (D a))(hr2:Rd w bo (D b)):
 Calls Tryz.prog 58 #[.slice ao n c,.slice bo m d] w fun e w'=>P8 w w' e (D (a/b)) (D (a%b)):=
 rK ao bo n m c d a b w hl hm hb (by omega) (by omega) hcn hr hr2

end Go.Proofs.YtfdgkleoaehjaaaGreatDoor
