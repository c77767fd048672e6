import Derived.Test.YthllhabjfchgiaaGreatDoorHz33
set_option maxRecDepth 100000
set_option maxHeartbeats 8000000
namespace Go.Proofs.YthllhabjfchgiaaGreatDoor
open _root_.Go.Proofs.Tryz
section
open Go.RowKit Hx
attribute [local go_sem ↓] Go.wp_at_zero Go.wp_at_succ
attribute [local go_sem] bT
section
variable {w w' w2 w1:World}{tag:Nat->Nat}{L R cap:Nat}{pk:Nat->Nat}{cv u v:Value}{ρ:bW}{s:aO}{lost:List Nat}
theorem bg.afw(h:bg w tag L R pk cv cap ρ s)(hg:w.grownBy w1 v.ownBlock)(hap:∀t g,2<=t->(ρ t).2.1.ownBlock=some g->v.ownBlock≠some g)(htag:∀g,v.ownBlock=some g->2<=tag g):bg w1 tag L R pk cv cap ρ s/\Lf w tag w1 tag:=by
 have hs:=hg.size;have hb:∀b,tag b=1->w1.heap[b]? =w.heap[b]? :=fun b e=>hg.block b (h.nH (by omega)) (fun e2=>by have:=htag b e2.symm;omega);refine⟨⟨⟨fun t ht=>⟨(h.rows.each t ht).1.kept hg ?_,(h.rows.each t ht).2⟩,fun k hk=>h.rows.new k (by omega)⟩,h.aU,h.ok,h.lk.same (hb L h.fO),fun i r hr=>(h.rd i r hr).same (hb R h.lM),fun q p hp=>(h.mg q p hp).same (hb _ (h.ni q (List.getElem?_eq_some_iff.1 hp).1).1),fun b e j=>(World.frozen?_of_block (hb b e)).trans (h.fz b e j),h.fO,h.lM,h.vX,h.ni,h.inj⟩,Lf.row hg (fun g hg=>by have:=htag g hg;omega) fun _ _=>rfl⟩;cases hc:(ρ t).2.1.ownBlock with
 |none=>exact Or.inl rfl
 |some k=>exact Or.inr fun e=>hap t k ht hc e.symm
theorem Qe:∀(l a:List Nat),(oW a l).length<=max 16 a.length
 |[],a=>Nat.le_max_right _ _
 |q::l,a=>by
  have h:=Qe l (if a.length<16/\(lH a (q:Int)).isNone then a++[q]else a);have e:oW a (q::l)=oW (if a.length<16/\(lH a (q:Int)).isNone then a++[q]else a) l:=rfl;rw[e];refine Nat.le_trans h ?_;split
  .rename_i hc;rw[List.length_append,List.length_singleton];omega
  .exact Nat.le_refl _
theorem agy{a l:List Nat}{k q:Nat}(hk:l[k]? =some q):oW a (l.take (k+1))=if (oW a (l.take k)).length<16/\(lH (oW a (l.take k)) (q:Int)).isNone then oW a (l.take k)++[q]else oW a (l.take k):=by
 have:l.take (k+1)=l.take k++[q]:=by rw[List.take_add_one,hk];rfl
 rw[this];unfold oW;rw[List.foldl_append]
 rfl
theorem Xj:∀(l a:List Nat),∀q∈oW a l,q∈a\/q∈l
 |[],a,q,h=>Or.inl h
 |x::l,a,q,h=>by
  have e:oW a (x::l)=oW (if a.length<16/\(lH a (x:Int)).isNone then a++[x]else a) l:=rfl;rw[e]at h;rcases Xj l _ q h with h|h
  .split at h
   .rcases List.mem_append.1 h with h|h
    .exact Or.inl h
    .exact Or.inr (by rw[List.mem_singleton.1 h];exact List.mem_cons_self)
   .exact Or.inl h
  .exact Or.inr (List.mem_cons_of_mem _ h)
theorem agz(h:bg w tag L R pk cv cap ρ s)(hs:Small s)(ho:uz w pk v lost)(hap:∀t g,2<=t->(ρ t).2.1.ownBlock=some g->v.ownBlock≠some g)(htag:∀g,v.ownBlock=some g->5<=tag g)(hm:∀q∈lost,q<s.all.length):
 Calls prog 105 #[Pt L 0,v] w fun e w'=>e=.returned (.tuple #[])/\∃tag' ρ',bg w' tag' L R pk cv cap ρ' {s with aJ:=oW s.aJ (oZ lost)}/\Lf w tag w' tag':=by
 obtain⟨T1,hT1,hy0,hy1,hy2⟩:=info_parts KN;obtain⟨va,vc,hv⟩:=fJ ho.row;have hlen:(oZ lost).length=lost.length:=List.length_mergeSort _;have hmem:∀q∈oZ lost,q∈lost:=fun q hq=>List.mem_mergeSort.1 hq;have Ox:=ho.len;have hal:=hs.aJ;have HS:Hid (Calls prog 159 #[v] w fun e w1=>e=.returned (.tuple #[])/\bg w1 tag L R pk cv cap ρ s/\Lf w tag w1 tag/\∀j q,(oZ lost)[j]? =some q->∃g,va=some (Ad g 0)/\5<=tag g/\g<w1.heap.size/\w1.cell? (Ad g j)=some (ptr pk q)):=by
  refine(ah7 ho).mono ?_;rintro e w1 ⟨e1,r1,g1⟩;obtain⟨k1,k2⟩:=h.afw g1 hap (fun g hg=>by have:=htag g hg;omega);refine⟨e1,k1,k2,fun j q hj=>?_⟩;have hjl:=(List.getElem?_eq_some_iff.1 hj).1;have ho1:uz w1 pk v (oZ lost):=⟨by rw[hlen];exact r1,by rw[hlen];exact Ox,fun q hq=>by
   have mM:=hm q (hmem q hq);exact(k1.mg q s.all[q] (by simp)).l9 (j:=0) rfl,fun q hq=>ho.ne q (hmem q hq)⟩
  obtain⟨⟨a,c,ha,hc⟩,_⟩:=ho1.read;obtain⟨g,hg,hcell⟩:=hc j q hj;rw[hv]at ha;have e2:va=a:=(Value.slice.inj ha).1;have e3:v.ownBlock=some g:=by rw[hv,e2,hg];rfl
  exact⟨g,by rw[e2];exact hg,htag g e3,World.block_lt_of_cell? _ _ hcell,hcell⟩
 have HA:Hid (∀W t1 ρ1 a,bg W t1 L R pk cv cap ρ1 {s with aJ:=a}->Lf w tag W t1->a.length<=1000000000000->(∀q,q<s.all.length->W.cell? (Ad (pk q) 0)=some (Im (q:Int)))/\∃ua uc,W.cell? (Ad L 15)=some (.slice ua a.length uc)/\L<W.heap.size/\Hid (∀n x,Calls prog 160 #[.slice ua a.length uc,Im x] (W.drewN n) fun e w'=>e=.returned (oD pk (lH a x))/\w'=W.drewN n)/\Hid (∀n o,((W.drewN n).alloc o).ownsRow 0 163 1 (.slice ua a.length uc) a.length (dD pk a))/\Hid (∀(n:Nat)(o:Obj)(w1:World)(g c q:Nat),q<s.all.length->((W.drewN n).alloc o).grownBy w1 (Value.slice ua a.length uc).ownBlock->w1.ownsRow 0 163 1 (.slice (some (Ad g 0)) (a.length+1) c) (a.length+1) (dD pk a++[Pt (pk q) 0])->((Value.slice ua a.length uc).ownBlock=some g\/g=W.heap.size+1)->
       (∃x,w1.cell? (Ad L 15)=some x)/\(∀j,w1.frozen? (Ad L j)=false)/\∃tag' ρ',bg (w1.setCell (Ad L 15) (.slice (some (Ad g 0)) (a.length+1) c)) tag' L R pk cv cap ρ' {s with aJ:=a++[q]}/\Lf w tag (w1.setCell (Ad L 15) (.slice (some (Ad g 0)) (a.length+1) c)) tag'/\∀k,5<=t1 k->k<W.heap.size->(w1.setCell (Ad L 15) (.slice (some (Ad g 0)) (a.length+1) c)).heap[k]? =W.heap[k]?/\tag' k=t1 k)):=by
  intro W t1 ρ1 a h1 f1 hal;have ho1:=h1.own (t:=4) (by omega) h1.aU.aJ h1.ok.aJ (by show a.length<=_;omega);obtain⟨ua,uc,hu⟩:=fJ ho1.row;refine⟨fun q hq=>(h1.mg q s.all[q] (by simp)).l9 (j:=0) rfl,ua,uc,by rw[<-hu];exact h1.dL rfl,h1.nH (by rw[h1.fO];decide),fun n x=>?_,fun n o=>?_,fun n o w1 g c q hq hg how hat=>?_⟩
  .have h2:=h1.grow (dh W n);have ho2:=h2.own (t:=4) (by omega) h2.aU.aJ h2.ok.aJ (by show a.length<=_;omega);have:=J4 ho2.read (by show a.length<=_;omega) x;rw[hu]at this;exact this
  .have h2:=h1.grow (dh W n);have ho2:=h2.own (t:=4) (by omega) h2.aU.aJ h2.ok.aJ (by show a.length<=_;omega);rw[<-hu];exact ho2.row.alloc o
  have hgw:W.grownBy ((W.drewN n).alloc o) none:=(dh W n).trans (World.grownBy_alloc _ o none);have h3:=h1.grow hgw;have e1:dD pk a++[Pt (pk q) 0]=dD pk (a++[q]):=by simp[dD,ptr]
  rw[e1]at how;obtain⟨tag',ρ',z1,z2,z3,z4,z5⟩:=h3.Qb (l':=a++[q]) (by rw[hu];exact hg) (by simpa using how) (fun k hk=>by
   rw[hu];simp only[Value.ownBlock,Option.some.injEq]at hk;subst hk;exact hat.imp id (fun e=>by rw[kK];show W.heap.size+1<=_;omega)) (fun x hx=>by
   rcases List.mem_append.1 hx with hx|hx
   .exact h1.ok.aJ x hx
   .rw[List.mem_singleton.1 hx];exact hq)
  refine⟨z3,z4,tag',ρ',z1,(f1.trans (Lf.grown hgw)).trans z2,fun k hk hkl=>?_⟩;have hks:=hgw.size;obtain⟨y1,y2⟩:=z5 k (fun e=>by rw[e,h1.fO]at hk;omega) (by omega) (by omega);exact⟨y1.trans (hgw.block k hkl (by simp)),y2⟩
 have HM:Hid (∀q∈oZ lost,q<s.all.length):=fun q hq=>hm q (hmem q hq);have oh:Hid (∀q∈s.aJ,q<s.all.length):=h.ok.aJ;rw[hv]at HS⊢;clear h hs ho hap htag hm hv hmem;generalize oZ lost=l at *;rw[<-hlen]at Ox HS⊢;clear hlen;go_enter func105,ntmps105;go_wp2_with fail;refine HS.out.mono ?_;rintro e w1 ⟨rfl,h1,f1,c1⟩;have RJ:Hid (∃t1 ρ1,bg w1 t1 L R pk cv cap ρ1 {s with aJ:=s.aJ}/\Lf w tag w1 t1/\∀j q,l[j]? =some q->∃g,va=some (Ad g 0)/\5<=t1 g/\g<w1.heap.size/\w1.cell? (Ad g j)=some (ptr pk q)):=⟨tag,ρ,h1,f1,c1⟩;clear h1 f1 c1 HS;go_wp2_with fail;go_loopg [10] (l.length+1) (fun gg i wr=>Hid (∃(k:Nat)(t1:Nat->Nat)(ρ1:bW),k+gg=l.length+1/\k<=l.length/\i=Im k/\bg wr t1 L R pk cv cap ρ1 {s with aJ:=oW s.aJ (l.take k)}/\Lf w tag wr t1/\∀j q,l[j]? =some q->∃g,va=some (Ad g 0)/\5<=t1 g/\g<wr.heap.size/\wr.cell? (Ad g j)=some (ptr pk q)))
 case atStart=>
  obtain⟨t3,ρ3,z1,z2,z3⟩:=RJ.out;exact⟨0,t3,ρ3,by omega,Nat.zero_le _,rfl,z1,z2,z3⟩
 case round=>
  obtain⟨k,t4,ρ4,hk1,hk2,rfl,z1,z2,z3⟩:=hrel.out;clear hrel RJ;by_cases hlt:k<l.length
  .have d1:decide ((k:Int)<(l.length:Int))=true:=decide_eq_true (by omega);have i0:(0:Int)<=(k:Int):=by omega
   have i1:(k:Int)<(l.length:Int):=by omega
   obtain⟨g',hg'⟩:∃g',gk=g'+1:=⟨gk-1,by omega⟩;have hget:l[k]? =some l[k]:=by simp
   have HT:=bC (agy (a:=s.aJ) hget);have mM:=HM.out l[k] (List.getElem_mem hlt);obtain⟨gb,hva,ht5,hgb,c0⟩:=z3 k _ hget;subst hva;have acG:(oW s.aJ (l.take k)).length<=1000000000000:=by have:=Qe (l.take k) s.aJ;omega
   obtain⟨hpk,ua,uc,c15,GR,HF,HR,HP⟩:=HA.out _ t4 ρ4 _ z1 z2 acG;have p0:=hpk l[k] mM;have HN:Hid (∀n,bg (wr.drewN n) t4 L R pk cv cap ρ4 {s with aJ:=oW s.aJ (l.take k)}/\Lf w tag (wr.drewN n) t4):=fun n=>⟨z1.grow (dh _ n),z2.trans (Lf.grown (dh _ n))⟩;have HZ:=bC z3;clear z1 z2 z3 hget hpk HA HM;generalize hqa:oW s.aJ (l.take k)=a at *;generalize l[k]=q at *;simp only[ptr]at c0;clear hqa;by_cases ha16:a.length<16
   .have d2:decide ((a.length:Int)<16)=true:=decide_eq_true (by omega);cases hf:lH a (q:Int)with
    |some q'=>
     rw[hf,if_neg (by simp)]at HT;have HF2:Hid (∀n,Calls prog 160 #[.slice ua a.length uc,Im (q:Int)] (wr.drewN n) fun e w'=>e=.returned (Pt (pk q') 0)/\w'=wr.drewN n):=fun n=>by
      have:=HF.out n q;rw[hf]at this;exact this
     clear HF HR HP hf;go_wp2_with fail;go_quiet ((go_at_call 160;exact Calls.quiet_of_same (HF2.out _)));go_wp2_with fail;go_roundg g'
     case measure=>omega
     case rel=>exact⟨k+1,t4,ρ4,by omega,by omega,by go_num,by rw[HT.out];exact(HN.out _).1,(HN.out _).2,HZ.out⟩
    |none=>
     rw[hf,if_pos ⟨ha16,rfl⟩]at HT;have HF2:Hid (∀n,Calls prog 160 #[.slice ua a.length uc,Im (q:Int)] (wr.drewN n) fun e w'=>e=.returned (.pointer none)/\w'=wr.drewN n):=fun n=>by
      have:=HF.out n q;rw[hf]at this;exact this
     clear HF hf;have VT:¬L=wr.heap.size:=by omega
     go_wp2_with fail;go_quiet ((go_at_call 160;exact Calls.quiet_of_same (HF2.out _)));go_wp2_with (at_builtin;refine wpList_append_lies _ rfl _ _ 155 rfl 0 163 T1 (.pointer none) 1 8 Tryz.underlying155 hT1 hy0 hy1 hy2 rfl (by decide) (.slice ua a.length uc) a.length (dD pk a) rfl (HR.out _ _) (Ad wr.heap.size 0) 1 1 [Pt (pk q) 0] rfl rfl (cell_one_new _ _ _) (by simp[Value.oneCell']) (by decide) (by unfold maxLen;omega) (by omega) (by simp) (wr.heap.size+1) (by simp) ?_;intro g4 cap4 w4 hown4 sZ sW hlt4;obtain⟨x14,OJ⟩:=(HP.out _ _ _ _ _ _ mM sZ hown4 sW).1;have Ky:=(HP.out _ _ _ _ _ _ mM sZ hown4 sW).2.1);obtain⟨_,_,y9,ρ1,h1,f1,b1⟩:=HP.out _ _ _ _ _ _ mM sZ hown4 sW;have HB:=bC b1;have HH:=bC (And.intro h1 f1);clear HP HR hown4 sZ sW OJ Ky c15 p0 h1 f1 b1;go_roundg g'
     case measure=>omega
     case rel=>
      refine⟨k+1,y9,ρ1,by omega,by omega,by go_num,by rw[HT.out];exact HH.out.1,HH.out.2,fun j x hj=>?_⟩;obtain⟨gx,y1,y2,y3,y4⟩:=HZ.out j x hj;obtain⟨u1,u2⟩:=HB.out gx y2 y3;exact⟨gx,y1,by rw[u2];exact y2,(by
       have:(w4.setCell (Ad L 15) (.slice (some (Ad g4 0)) (a.length+1) cap4)).cell? (Ad gx j)=some (ptr pk x):=(World.cell?_of_block u1).trans y4;exact World.block_lt_of_cell? _ _ this),(World.cell?_of_block u1).trans y4⟩
   .have d2:decide ((a.length:Int)<16)=false:=decide_eq_false (by omega);rw[if_neg (fun e=>ha16 e.1)]at HT;clear HF HR HP;go_wp2_with fail;go_quiet (fail);go_wp2_with fail;go_roundg g'
    case measure=>omega
    case rel=>exact⟨k+1,t4,ρ4,by omega,by omega,by go_num,by rw[HT.out];exact(HN.out _).1,(HN.out _).2,HZ.out⟩
  .have hkl:k=l.length:=by omega
   subst hkl;have d1:decide ((l.length:Int)<(l.length:Int))=false:=decide_eq_false (by omega);rw[List.take_of_length_le (Nat.le_refl _)]at z1;have HQ:=bC (And.intro z1 z2);clear z1 z2 z3 HA;go_wp2_with fail;go_end0;exact⟨rfl,t4,ρ4,HQ.out⟩
end
section
variable {w w' w2 w1:World}{tag:Nat->Nat}{L R cap:Nat}{pk:Nat->Nat}{cv u v:Value}{ρ:bW}{s:aO}
theorem Pn(cv rv fv uv av:Value)(s:aO):(qO cv rv fv uv av s).length=19+s.kept.length:=by simp[qO];omega
theorem bg.XK(h:bg w tag L R pk cv cap ρ s)(i:Nat)(hi:i<32)(b:Bool):bg (w.setCell (Ad L (19+i)) (.bool b)) tag L R pk cv cap ρ {s with kept:=s.kept.set i b}/\Lf w tag (w.setCell (Ad L (19+i)) (.bool b)) tag:=
 h.dF (j:=19+i) (u:=.bool b) (by rw[Pn,h.ok.kept];omega) (s':={s with kept:=s.kept.set i b}) ⟨h.aU.aG,h.aU.aP,h.aU.aJ,h.aU.aT,h.aU.aX,h.aU.aQ⟩ ⟨h.ok.aG,h.ok.aP,h.ok.aJ,h.ok.aQ,by rw[List.length_set];exact h.ok.kept,h.ok.turn,h.ok.ah⟩ rfl rfl (by
  unfold qO;rw[List.set_append_right _ _ (by simp)]
  congr 1
  rw[List.map_set]
  congr 1
  simp)
theorem bg.ahK(h:bg w tag L R pk cv cap ρ s)(x:Nat):bg (w.setCell (Ad L 18) (Im (x:Int))) tag L R pk cv cap ρ {s with bQ:=x}/\Lf w tag (w.setCell (Ad L 18) (Im (x:Int))) tag:=
 h.dF (j:=18) (u:=Im (x:Int)) (by rw[Pn];omega) (s':={s with bQ:=x}) ⟨h.aU.aG,h.aU.aP,h.aU.aJ,h.aU.aT,h.aU.aX,h.aU.aQ⟩ ⟨h.ok.aG,h.ok.aP,h.ok.aJ,h.ok.aQ,h.ok.kept,h.ok.turn,h.ok.ah⟩ rfl rfl rfl
theorem bg.Tt(h:bg w tag L R pk cv cap ρ s){i:Nat}(hi:i<32):w.cell? (Ad L (19+i))=some (.bool (s.kept.getD i false)):=by
 refine h.dL ?_;unfold qO;rw[List.getElem?_append_right (by simp)];have hk:=h.ok.kept;rw[List.getElem?_map,List.getD_eq_getElem?_getD];have:19+i-[cv,Im s.r0,Im s.r1,Im s.r2,Im s.r3,Im s.r4,Im s.r5,Im s.r6,Im s.r7,.slice (some (Ad R 0)) s.ah.length cap,Im (s.acc:Int),Im (s.dA:Int),Im (s.dN:Int),(ρ 2).2.1,(ρ 3).2.1,(ρ 4).2.1,Im s.quiet,Im (s.turn:Int),Im (s.bQ:Int)].length=i:=by simp
 rw[this,List.getElem?_eq_getElem (by omega)]
 rfl
theorem count_set:∀(k:List Bool)(i:Nat),k.getD i false=true->(k.set i false).count true+1=k.count true
 |[],i,h=>by simp at h
 |b::k,0,h=>by
  have:b=true:=by simpa using h
  subst this;simp
 |b::k,i+1,h=>by
  have:=count_set k i (by simpa using h);rw[List.set_cons_succ,List.count_cons,List.count_cons];omega
theorem QG{f d:Nat}{k:List Bool}(h:k.getD (d%32) false=false):qj f d k=(d,k):=by
 cases f with
 |zero=>rfl
 |succ f=>rw[qj,h];rfl
theorem QF{f d:Nat}{k:List Bool}(h:k.getD (d%32) false=true):qj (f+1) d k=qj f (d+1) (k.set (d%32) false):=by
 rw[qj,h];rfl
theorem aiI(h:bg w tag L R pk cv cap ρ s)(hd:s.bQ<=1000000000000000)(seq:Nat)(hseq:seq<=1000000000000000):Calls prog 79 #[Pt L 18,Im (seq:Int)] w fun e w'=>e=.returned (Im ((Hx.takes s.bQ s.kept seq).1:Int))/\bg w' tag L R pk cv cap ρ {s with bQ:=(Hx.takes s.bQ s.kept seq).1,kept:=(Hx.takes s.bQ s.kept seq).2}/\Lf w tag w' tag:=by
 have c18:w.cell? (Ad L 18)=some (Im (s.bQ:Int)):=h.dL rfl;have fz:=h.fz L h.fO;unfold Hx.takes;have hsm:seq%32<32:=Nat.mod_lt _ (by omega);have cs:=h.Tt hsm;have HL:Hid (∀W d k,bg W tag L R pk cv cap ρ {s with bQ:=d,kept:=k}->Lf w tag W tag->W.cell? (Ad L 18)=some (Im (d:Int))/\W.cell? (Ad L (19+d%32))=some (.bool (k.getD (d%32) false))/\(∀j,W.frozen? (Ad L j)=false)/\Hid (∀n,bg (((W.setCell (Ad L (19+d%32)) (.bool false)).setCell (Ad L 18) (Im ((d:Int)+1))).drewN n) tag L R pk cv cap ρ {s with bQ:=d+1,kept:=k.set (d%32) false}/\Lf w tag (((W.setCell (Ad L (19+d%32)) (.bool false)).setCell (Ad L 18) (Im ((d:Int)+1))).drewN n) tag)/\Hid (∀n,bg (W.drewN n) tag L R pk cv cap ρ {s with bQ:=d,kept:=k}/\Lf w tag (W.drewN n) tag)):=fun W d k h1 f1=>by
  have hdm:d%32<32:=Nat.mod_lt _ (by omega);refine⟨h1.dL rfl,h1.Tt hdm,h1.fz L h1.fO,fun n=>?_,fun n=>⟨h1.grow (dh _ n),f1.trans (Lf.grown (dh _ n))⟩⟩;obtain⟨a1,a2⟩:=h1.XK (d%32) hdm false;obtain⟨b1,b2⟩:=a1.ahK (d+1);exact⟨b1.grow (dh _ n),((f1.trans a2).trans b2).trans (Lf.grown (dh _ n))⟩
 have HK:Hid (∀k:List Bool,k.length=32->k.count true<33):=fun k hk=>by have:=List.count_le_length (a:=true) (l:=k);omega
 have hkl:=h.ok.kept;have HI:Hid (bg (w.setCell (Ad L (19+seq%32)) (.bool true)) tag L R pk cv cap ρ {s with bQ:=s.bQ,kept:=s.kept.set (seq%32) true}/\Lf w tag (w.setCell (Ad L (19+seq%32)) (.bool true)) tag):=h.XK (seq%32) hsm true;have HI0:Hid (bg w tag L R pk cv cap ρ {s with bQ:=s.bQ,kept:=s.kept}/\Lf w tag w tag):=⟨h,Lf.refl _ _⟩;clear h;by_cases hc:s.bQ<=seq/\seq<s.bQ+32
 .rw[if_pos hc];have d1:decide ((s.bQ:Int)<=(seq:Int))=true:=decide_eq_true (by omega);have d2:decide ((seq:Int)<(s.bQ:Int)+32)=true:=decide_eq_true (by omega);generalize hk0:s.kept.set (seq%32) true=k0 at *;have KA:k0.length=32:=by rw[<-hk0,List.length_set];exact hkl
  clear hk0;go_enter func79,ntmps79;go_wp2_with fail;clear c18 cs fz d1 d2;go_loopg [] 33 (fun gg wr=>Hid (∃(d:Nat)(k:List Bool),bg wr tag L R pk cv cap ρ {s with bQ:=d,kept:=k}/\Lf w tag wr tag/\qj 33 s.bQ k0=qj gg d k/\k.count true<gg/\d+gg=s.bQ+33))
  case atStart=>exact⟨s.bQ,k0,HI.out.1,HI.out.2,rfl,HK.out k0 KA,rfl⟩
  case round=>
   obtain⟨d,k,z1,z2,z3,z4,z5⟩:=hrel.out;clear hrel HI HI0;obtain⟨c18,ck,fz,HG,HN⟩:=HL.out _ d k z1 z2;obtain⟨g',hg'⟩:∃g',gk=g'+1:=⟨gk-1,by omega⟩;subst hg';have hdb:d<=2000000000000000:=by omega
   clear z1 z2 HL;cases hkd:k.getD (d%32) false with
   |true=>
    rw[hkd]at ck;have HT:=bC (z3.trans (QF hkd));have hct:=count_set k (d%32) hkd;clear z3 HN;go_wp2_with fail;go_quiet (fail);go_wp2_with fail;go_region;go_wp2_with fail;go_roundg g'
    case measure=>omega
    case rel=>exact⟨d+1,k.set (d%32) false,(HG.out _).1,(HG.out _).2,HT.out,by omega,by omega⟩
   |false=>
    rw[hkd]at ck;have HT:=bC (z3.trans (QG hkd));clear z3 HG;go_wp2_with fail;go_quiet (fail);go_wp2_with fail;go_ret;have HT1:=congrArg Prod.fst HT.out;have HT2:=congrArg Prod.snd HT.out;simp only at HT1 HT2;refine⟨?_,?_⟩
    .rw[HT1];rfl
    .rw[HT1,HT2];exact HN.out _
 .rw[if_neg hc];obtain⟨k0,hk0⟩:∃k0,s.kept=k0:=⟨_,rfl⟩;have HI1:Hid (bg w tag L R pk cv cap ρ {s with bQ:=s.bQ,kept:=k0}/\Lf w tag w tag):=by rw[<-hk0];exact HI0
  have KA:k0.length=32:=by rw[<-hk0];exact hkl
  rw[hk0];clear hk0 HI0;by_cases hc1:s.bQ<=seq
  .have d1:decide ((s.bQ:Int)<=(seq:Int))=true:=decide_eq_true (by omega);have d2:decide ((seq:Int)<(s.bQ:Int)+32)=false:=decide_eq_false (by omega);go_enter func79,ntmps79;go_wp2_with fail;clear c18 cs fz d1 d2;go_loopg [] 33 (fun gg wr=>Hid (∃(d:Nat)(k:List Bool),bg wr tag L R pk cv cap ρ {s with bQ:=d,kept:=k}/\Lf w tag wr tag/\qj 33 s.bQ k0=qj gg d k/\k.count true<gg/\d+gg=s.bQ+33))
   case atStart=>exact⟨s.bQ,k0,HI1.out.1,HI1.out.2,rfl,HK.out k0 KA,rfl⟩
   case round=>
    obtain⟨d,k,z1,z2,z3,z4,z5⟩:=hrel.out;clear hrel HI HI1;obtain⟨c18,ck,fz,HG,HN⟩:=HL.out _ d k z1 z2;obtain⟨g',hg'⟩:∃g',gk=g'+1:=⟨gk-1,by omega⟩;subst hg';have hdb:d<=2000000000000000:=by omega
    clear z1 z2 HL;cases hkd:k.getD (d%32) false with
    |true=>
     rw[hkd]at ck;have HT:=bC (z3.trans (QF hkd));have hct:=count_set k (d%32) hkd;clear z3 HN;go_wp2_with fail;go_quiet (fail);go_wp2_with fail;go_region;go_wp2_with fail;go_roundg g'
     case measure=>omega
     case rel=>exact⟨d+1,k.set (d%32) false,(HG.out _).1,(HG.out _).2,HT.out,by omega,by omega⟩
    |false=>
     rw[hkd]at ck;have HT:=bC (z3.trans (QG hkd));clear z3 HG;go_wp2_with fail;go_quiet (fail);go_wp2_with fail;go_ret;have HT1:=congrArg Prod.fst HT.out;have HT2:=congrArg Prod.snd HT.out;simp only at HT1 HT2;refine⟨?_,?_⟩
     .rw[HT1];rfl
     .rw[HT1,HT2];exact HN.out _
  .have d1:decide ((s.bQ:Int)<=(seq:Int))=false:=decide_eq_false (by omega);go_enter func79,ntmps79;go_wp2_with fail;clear c18 cs fz d1;go_loopg [] 33 (fun gg wr=>Hid (∃(d:Nat)(k:List Bool),bg wr tag L R pk cv cap ρ {s with bQ:=d,kept:=k}/\Lf w tag wr tag/\qj 33 s.bQ k0=qj gg d k/\k.count true<gg/\d+gg=s.bQ+33))
   case atStart=>exact⟨s.bQ,k0,HI1.out.1,HI1.out.2,rfl,HK.out k0 KA,rfl⟩
   case round=>
    obtain⟨d,k,z1,z2,z3,z4,z5⟩:=hrel.out;clear hrel HI HI1;obtain⟨c18,ck,fz,HG,HN⟩:=HL.out _ d k z1 z2;obtain⟨g',hg'⟩:∃g',gk=g'+1:=⟨gk-1,by omega⟩;subst hg';have hdb:d<=2000000000000000:=by omega
    clear z1 z2 HL;cases hkd:k.getD (d%32) false with
    |true=>
     rw[hkd]at ck;have HT:=bC (z3.trans (QF hkd));have hct:=count_set k (d%32) hkd;clear z3 HN;go_wp2_with fail;go_quiet (fail);go_wp2_with fail;go_region;go_wp2_with fail;go_roundg g'
     case measure=>omega
     case rel=>exact⟨d+1,k.set (d%32) false,(HG.out _).1,(HG.out _).2,HT.out,by omega,by omega⟩
    |false=>
     rw[hkd]at ck;have HT:=bC (z3.trans (QG hkd));clear z3 HG;go_wp2_with fail;go_quiet (fail);go_wp2_with fail;go_ret;have HT1:=congrArg Prod.fst HT.out;have HT2:=congrArg Prod.snd HT.out;simp only at HT1 HT2;refine⟨?_,?_⟩
     .rw[HT1];rfl
     .rw[HT1,HT2];exact HN.out _
theorem bg.C9(h:bg w tag L R pk cv cap ρ s){t:Nat}{l:List Nat}(ht:2<=t)(h1:(ρ t).1=3/\(ρ t).2.2=ints l):∃a c,(ρ t).2.1=.slice a l.length c/\∀(k x:Nat),l[k]? =some x->∃g,a=some (Ad g 0)/\w.cell? (Ad g k)=some (Im (x:Int)):=by
 obtain⟨r1,_⟩:=h.rows.each t ht;rw[h1.1,h1.2]at r1;have r2:w.ownsRow 0 3 1 (ρ t).2.1 l.length (ints l):=by simpa [ints]using r1
 rcases r2 with⟨_,⟨h2,h3⟩|⟨g,cap,cur,h2,h3,h4,h5,h6,h7,h8⟩⟩
 .exact⟨none,0,by rw[h3];exact h2,fun k x hk=>by rw[List.length_eq_zero_iff.1 h3]at hk;simp at hk⟩
 .refine⟨some (Ad g 0),cap,h2,fun k x hk=>⟨g,rfl,?_⟩⟩;have hkl:=(List.getElem?_eq_some_iff.1 hk).1;rw[aA h4];have e1:(ints l)[k]? =some (Im (x:Int)):=by rw[ints,List.getElem?_map,hk];rfl
  rw[<-h8,Nat.mul_one,List.getElem?_take_of_lt hkl]at e1;simpa using e1
theorem Zy(h:bg w tag L R pk cv cap ρ s)(hs:Small s)(aK k:Int):Calls prog 40 #[Pt L 0,Im aK,Im k] w fun e w'=>e=.returned (Im (s.lZ aK k).2)/\∃tag' ρ',bg w' tag' L R pk cv cap ρ' (s.lZ aK k).1/\Lf w tag w' tag':=by
 have HR:=bC (La h aK);unfold aO.lZ;cases hr:sH s aK with
 |none=>
  rw[hr]at HR;simp only[xJ]at HR;have HH:=bC h;clear h hs hr;go_enter func40,ntmps40;go_wp2_with fail;refine HR.out.mono ?_;rintro e w1 ⟨rfl,rfl⟩;go_wp2_with fail;go_ret;exact⟨rfl,tag,ρ,HH.out,Lf.refl _ _⟩
 |some i=>
  rw[hr]at HR;simp only[xJ]at HR;obtain⟨hil,hid⟩:=II hr;have fB:s.ah[i]? =some s.ah[i]:=by simp
  obtain⟨ra,rc,KE,hrow⟩:=h.C9 (t:=6+3 * i) (by omega) (h.aU.aX i _ fB);have c6:w.cell? (Ad R (i * 8+6))=some (.slice ra s.ah[i].aX.length rc):=by rw[<-KE];exact h.gu fB rfl
  have c11:w.cell? (Ad L 11)=some (Im (s.dA:Int)):=h.dL rfl;have hal:=(hs.aK i _ fB).2.1;have hcw:=(hs.aK i _ fB).2.2.2.2;simp only;rw[fB];simp only;have HU:Hid (∀n:Nat,Calls prog 80 #[Pt L 0,Im (n:Int)] w fun e w'=>e=.returned (.tuple #[])/\∃tag' ρ',bg w' tag' L R pk cv cap ρ' (s.fD n)/\Lf w tag w' tag'):=fun n=>Zx h hs n;have HG:Hid (∀(n:Nat)(W:World)(t1:Nat->Nat)(ρ1:bW),bg W t1 L R pk cv cap ρ1 (s.fD n)->Calls prog 81 #[Pt R (i * 8)] W fun e w'=>e=.returned (.tuple #[])/\bg w' t1 L R pk cv cap ρ1 {s.fD n with ah:=(s.fD n).ah.set i (s.ah[i].fD n).grow}/\Lf W t1 w' t1):=fun n W t1 ρ1 h1=>abJ h1 (by show(s.ah.map _)[i]? =_;rw[List.getElem?_map,fB];rfl) hcw;have HH:=bC h;clear h hs hr hid fB KE hcw;generalize s.ah[i]=r at *;by_cases hk0:k<0
  .rw[if_pos (Or.inl hk0)];have d1:decide (k<0)=true:=decide_eq_true hk0;clear HU HG;go_enter func40,ntmps40;go_wp2_with fail;refine HR.out.mono ?_;rintro e w1 ⟨rfl,rfl⟩;go_wp2_with fail;go_ret;exact⟨rfl,tag,ρ,HH.out,Lf.refl _ _⟩
  .have d1:decide (k<0)=false:=decide_eq_false hk0;by_cases hk1:(r.aX.length:Int)<=k
   .rw[if_pos (Or.inr hk1)];have d2:decide ((r.aX.length:Int)<=k)=true:=decide_eq_true hk1;clear HU HG;go_enter func40,ntmps40;go_wp2_with fail;refine HR.out.mono ?_;rintro e w1 ⟨rfl,rfl⟩;go_wp2_with fail;go_ret;exact⟨rfl,tag,ρ,HH.out,Lf.refl _ _⟩
   .rw[if_neg (by omega)];have d2:decide ((r.aX.length:Int)<=k)=false:=decide_eq_false hk1;obtain⟨j,rfl⟩:∃j:Nat,k=(j:Int):=⟨k.toNat,by omega⟩;have hjl:j<r.aX.length:=by omega
    have hgj:r.aX[j]? =some r.aX[j]:=by simp
    obtain⟨g,rfl,cg⟩:=hrow j _ hgj;have i0:(0:Int)<=(j:Int):=by omega
    have i1:(j:Int)<(r.aX.length:Int):=by omega
    have hgd:r.aX.getD (j:Int).toNat 0=r.aX[j]:=by rw[Int.toNat_natCast,List.getD_eq_getElem?_getD,hgj];rfl
    rw[hgd];clear hgd hgj hrow;generalize r.aX[j]=n at *;by_cases hn:s.dA<n
    .rw[if_pos hn];have d3:decide ((s.dA:Int)<(n:Int))=true:=decide_eq_true (by omega);have RN:=bC (HU.out n);have kU:=bC (HG.out n);clear HU HG;go_enter func40,ntmps40;go_wp2_with fail;refine HR.out.mono ?_;rintro e w1 ⟨rfl,rfl⟩;go_wp2_with fail;refine RN.out.mono ?_;rintro e w2 ⟨rfl,t2,ρ2,h2,f2⟩;have HG2:=bC (kU.out _ t2 ρ2 h2);have HF:=bC f2;clear h2 f2 RN kU;go_wp2_with fail;refine HG2.out.mono ?_;rintro e w3 ⟨rfl,k1,k2⟩;have HK:=bC (And.intro k1 (HF.out.trans k2));clear k1 k2 HG2;go_wp2_with fail;go_ret;exact⟨rfl,t2,ρ2,HK.out⟩
    .rw[if_neg hn];have d3:decide ((s.dA:Int)<(n:Int))=false:=decide_eq_false (by omega);clear HU HG;go_enter func40,ntmps40;go_wp2_with fail;refine HR.out.mono ?_;rintro e w1 ⟨rfl,rfl⟩;go_wp2_with fail;go_ret;exact⟨rfl,tag,ρ,HH.out,Lf.refl _ _⟩
def Hx.aO.fU(s:aO)(aK:Int):aO×Int:=match sH s aK with
 |none=>(s,6)
 |some i=>match s.ah[i]?with
  |none=>(s,6)
  |some r=>({s with ah:=s.ah.set i r.fU,aJ:=oW s.aJ (oZ r.aQ)},0)
theorem Small.fU(hs:Small s){i:Nat}{r:Lr}(hi:s.ah[i]? =some r):Small {s with ah:=s.ah.set i r.fU}:=by
 refine⟨hs.aG,hs.aP,hs.aJ,fun j r' hj=>?_,hs.all,hs.acc,hs.dN,hs.quiet,hs.bQ,hs.dA⟩;by_cases hji:j=i
 .subst hji;have:=wH hj;subst this;obtain⟨h1,h2,h3,h4,h5⟩:=hs.aK j r hi;refine⟨h1,h2,Nat.zero_le _,Nat.zero_le _,?_⟩;show max (r.cO/2) 1<=1000;omega
 .exact hs.aK j r' (wG hj hji)
theorem ad4(h:bg w tag L R pk cv cap ρ s)(hs:Small s)(aK:Int):Calls prog 65 #[Pt L 0,Im aK] w fun e w'=>e=.returned (Im (s.fU aK).2)/\∃tag' ρ',bg w' tag' L R pk cv cap ρ' (s.fU aK).1/\Lf w tag w' tag':=by
 have HR:=bC (La h aK);unfold Hx.aO.fU;cases hr:sH s aK with
 |none=>
  rw[hr]at HR;simp only[xJ]at HR;have HH:=bC h;clear h hs hr;go_enter func65,ntmps65;go_wp2_with fail;refine HR.out.mono ?_;rintro e w1 ⟨rfl,rfl⟩;go_wp2_with fail;go_ret;exact⟨rfl,tag,ρ,HH.out,Lf.refl _ _⟩
 |some i=>
  rw[hr]at HR;simp only[xJ]at HR;obtain⟨hil,hid⟩:=II hr;have fB:s.ah[i]? =some s.ah[i]:=by simp
  simp only;rw[fB];simp only;have HL:Hid (Calls prog 106 #[Pt R (i * 8)] w fun e w1=>∃va vn vc,e=.returned (.slice va vn vc)/\Calls prog 105 #[Pt L 0,.slice va vn vc] w1 fun e w'=>e=.returned (.tuple #[])/\∃tag' ρ',bg w' tag' L R pk cv cap ρ' {s with ah:=s.ah.set i s.ah[i].fU,aJ:=oW s.aJ (oZ s.ah[i].aQ)}/\Lf w tag w' tag'):=by
   refine(aei h fB (by have:=(hs.aK i _ fB).2.2.1;omega) (hs.aK i _ fB).2.2.2.2).mono ?_;rintro e w1 ⟨v,ρ',e1,h1,f1,o1,t1,n1⟩;obtain⟨va,vc,hv⟩:=fJ o1.row;have hq:=agz h1 (hs.fU fB) o1 (fun t g ht hg Hl=>by
    by_cases hti:t=7+3 * i
    .rw[hti,n1]at hg;cases hg
    .have e2:=(h1.rows.each t ht).2 g hg;have e3:=t1 g Hl;omega) (fun g hg=>by have:=t1 g hg;omega) (h.ok.aQ i _ fB)
   rw[hv]at hq;refine⟨va,_,vc,by rw[e1,hv],hq.mono ?_⟩;rintro e w2 ⟨e2,t2,ρ2,k1,k2⟩;exact⟨e2,t2,ρ2,k1,f1.trans k2⟩
  clear h hs hr hid fB;go_enter func65,ntmps65;go_wp2_with fail;refine HR.out.mono ?_;rintro e w1 ⟨rfl,rfl⟩;go_wp2_with fail;refine HL.out.mono ?_;rintro e w2 ⟨va,vn,vc,rfl,k1⟩;have HQ:=bC k1;clear k1 HL;go_wp2_with fail;refine HQ.out.mono ?_;rintro e w3 ⟨rfl,k2⟩;have HK:=bC k2;clear k2 HQ;go_wp2_with fail;go_ret;exact⟨rfl,HK.out⟩
theorem gB{W y:World}{o:Obj}(h:W.grownBy y none):W.grownBy (y.alloc o) none:=h.trans (World.grownBy_alloc y o none)
theorem ZV(h:bg w tag L R pk cv cap ρ s)(hs:Small s)(hseg:∀(i:Nat)(r:Lr),s.ah[i]? =some r->∀q∈r.aT,q<=1000000000000)(aK k:Int):Calls prog 39 #[Pt L 0,Im aK,Im k] w fun e w'=>e=.returned (Im (s.lu aK k).2)/\∃tag' ρ',bg w' tag' L R pk cv cap ρ' (s.lu aK k).1/\Lf w tag w' tag':=by
 have HR:=bC (La h aK);obtain⟨T0,hT0,hz0,hz1,hz2⟩:=info_parts OW;unfold aO.lu;cases hr:sH s aK with
 |none=>
  rw[hr]at HR;simp only[xJ]at HR;have HH:=bC h;clear h hs hr hseg;go_enter func39,ntmps39;go_wp2_with fail;refine HR.out.mono ?_;rintro e w1 ⟨rfl,rfl⟩;go_wp2_with fail;go_ret;exact⟨rfl,tag,ρ,HH.out,Lf.refl _ _⟩
 |some i=>
  rw[hr]at HR;simp only[xJ]at HR;obtain⟨hil,hid⟩:=II hr;have fB:s.ah[i]? =some s.ah[i]:=by simp
  obtain⟨sa,sc,hsv,hrow⟩:=h.C9 (t:=5+3 * i) (by omega) (h.aU.aT i _ fB);have c5:w.cell? (Ad R (i * 8+5))=some (.slice sa s.ah[i].aT.length sc):=by rw[<-hsv];exact h.gu fB rfl
  have hsl:=(hs.aK i _ fB).1;have hal:=(hs.aK i _ fB).2.1;have KF:=hseg i _ fB;simp only;rw[fB];simp only;have HH:=bC h;have hsd:=hs.bQ;by_cases hk0:k<0
  .rw[if_pos (Or.inl hk0)];have d1:decide (k<0)=true:=decide_eq_true hk0;clear h hs hr hid fB hrow hsv hseg KF;go_enter func39,ntmps39;go_wp2_with fail;refine HR.out.mono ?_;rintro e w1 ⟨rfl,rfl⟩;go_wp2_with fail;go_ret;exact⟨rfl,tag,ρ,HH.out,Lf.refl _ _⟩
  .have d1:decide (k<0)=false:=decide_eq_false hk0;by_cases hk1:(s.ah[i].aT.length:Int)<=k
   .rw[if_pos (Or.inr hk1)];have d2:decide ((s.ah[i].aT.length:Int)<=k)=true:=decide_eq_true hk1;clear h hs hr hid fB hrow hsv hseg KF;generalize s.ah[i]=r at *;go_enter func39,ntmps39;go_wp2_with fail;refine HR.out.mono ?_;rintro e w1 ⟨rfl,rfl⟩;go_wp2_with fail;go_ret;exact⟨rfl,tag,ρ,HH.out,Lf.refl _ _⟩
   .rw[if_neg (by omega)];have d2:decide ((s.ah[i].aT.length:Int)<=k)=false:=decide_eq_false hk1;obtain⟨j,rfl⟩:∃j:Nat,k=(j:Int):=⟨k.toNat,by omega⟩;have hjl:j<s.ah[i].aT.length:=by omega
    have hgj:s.ah[i].aT[j]? =some s.ah[i].aT[j]:=by simp
    obtain⟨g,rfl,cg⟩:=hrow j _ hgj;have i0:(0:Int)<=(j:Int):=by omega
    have i1:(j:Int)<(s.ah[i].aT.length:Int):=by omega
    have hgd:s.ah[i].aT.getD (j:Int).toNat 0=s.ah[i].aT[j]:=by rw[Int.toNat_natCast,List.getD_eq_getElem?_getD,hgj];rfl
    rw[hgd];have hqb:=KF _ (List.getElem_mem hjl);have nG:tag g=5+3 * i:=(h.rows.each (5+3 * i) (by omega)).2 g (by rw[hsv];rfl);generalize hqq:s.ah[i].aT[j]=q at *;obtain⟨r1,r2⟩:=h.rows.each (6+3 * i) (by omega);have t1:=h.aU.aX i _ fB;rw[t1.1,t1.2]at r1;have r1:w.ownsRow 0 3 1 (ρ (6+3 * i)).2.1 s.ah[i].aX.length (ints s.ah[i].aX):=by simpa [ints]using r1
    obtain⟨va,vc,hv⟩:=fJ r1;have c6:w.cell? (Ad R (i * 8+6))=some (.slice va s.ah[i].aX.length vc):=by rw[<-hv];exact h.gu fB rfl
    have HT:Hid (∀y,w.grownBy y none->Calls prog 79 #[Pt L 18,Im (q:Int)] y fun e w1=>e=.returned (Im ((Hx.takes s.bQ s.kept q).1:Int))/\(w1.cell? (Ad R (i * 8+6))=some (.slice va s.ah[i].aX.length vc)/\w1.cell? (Ad R (i * 8+5))=some (.slice (some (Ad g 0)) s.ah[i].aT.length sc)/\w1.cell? (Ad g j)=some (Im (q:Int)))/\¬R=w1.heap.size/\(∀o,(w1.alloc o).cell? (Ad R (i * 8+6))=some (.slice va s.ah[i].aX.length vc))/\Hid (∀y,w1.grownBy y none->y.ownsRow 0 3 1 (.slice va s.ah[i].aX.length vc) s.ah[i].aX.length (ints s.ah[i].aX))/\Hid (∀(y w3:World)(gg c:Nat),w1.grownBy y none->y.grownBy w3 (Value.slice va s.ah[i].aX.length vc).ownBlock->w3.ownsRow 0 3 1 (.slice (some (Ad gg 0)) (s.ah[i].aX.length+1) c) (s.ah[i].aX.length+1) (ints s.ah[i].aX++[Im ((Hx.takes s.bQ s.kept q).1:Int)])->((Value.slice va s.ah[i].aX.length vc).ownBlock=some gg\/gg=w1.heap.size+1)->y.heap.size<=w1.heap.size+1->
     (w3.cell? (Ad R (i * 8+6))=some (.slice va s.ah[i].aX.length vc)/\w3.cell? (Ad R (i * 8+5))=some (.slice (some (Ad g 0)) s.ah[i].aT.length sc)/\w3.cell? (Ad g j)=some (Im (q:Int)))/\w3.frozen? (Ad R (i * 8+6))=false/\∃tag' ρ',bg (w3.setCell (Ad R (i * 8+6)) (.slice (some (Ad gg 0)) (s.ah[i].aX.length+1) c)) tag' L R pk cv cap ρ' {s with bQ:=(Hx.takes s.bQ s.kept q).1,kept:=(Hx.takes s.bQ s.kept q).2,ah:=s.ah.set i {s.ah[i]with aX:=s.ah[i].aX++[(Hx.takes s.bQ s.kept q).1]}}/\Lf w tag (w3.setCell (Ad R (i * 8+6)) (.slice (some (Ad gg 0)) (s.ah[i].aX.length+1) c)) tag')):=fun y hy=>by
     refine(aiI (h.grow hy) (by omega) q (by omega)).mono ?_;rintro e w1 ⟨e1,k1,k2⟩;have hgs:=hy.size;have own:∀y,w1.grownBy y none->y.ownsRow 0 3 1 (.slice va s.ah[i].aX.length vc) s.ah[i].aX.length (ints s.ah[i].aX):=fun y hy2=>by
      have k3:=k1.grow hy2;obtain⟨r1,_⟩:=k3.rows.each (6+3 * i) (by omega);rw[t1.1,t1.2,hv]at r1;simpa [ints]using r1
     obtain⟨a5,a6,a7,a8⟩:=k1.C9 (t:=5+3 * i) (by omega) (h.aU.aT i _ fB);obtain⟨g',a9,a10⟩:=a8 j q (by rw[hgj]);rw[hsv]at a7;have a11:=(Value.slice.inj a7).1;rw[a9]at a11;cases a11;refine⟨e1,⟨by rw[<-hv];exact k1.gu (i:=i) (r:=s.ah[i]) fB rfl,by rw[<-hsv];exact k1.gu (i:=i) (r:=s.ah[i]) fB rfl,a10⟩,?_,?_,own,fun y w3 gg c hy2 hg how hat hyl=>?_⟩
     .have:=k1.nH (b:=R) (by rw[k1.lM];decide);omega
     .exact fun o=>by rw[<-hv];exact(k1.grow (World.grownBy_alloc w1 o none)).gu (i:=i) (r:=s.ah[i]) fB rfl
     have k3:=k1.grow hy2;have hys:=hy2.size;have e1:ints s.ah[i].aX++[Im ((Hx.takes s.bQ s.kept q).1:Int)]=ints (s.ah[i].aX++[(Hx.takes s.bQ s.kept q).1]):=by simp[ints]
     rw[e1]at how;have e6:5+3 * i+1=6+3 * i:=by omega
     have hp:=k3.IC (i:=i) (d:=1) (r:=s.ah[i]) (r':={s.ah[i]with aX:=s.ah[i].aX++[(Hx.takes s.bQ s.kept q).1]}) (T:=3) (u:=.slice (some (Ad gg 0)) (s.ah[i].aX.length+1) c) (us:=ints (s.ah[i].aX++[(Hx.takes s.bQ s.kept q).1])) (w':=w3) fB (by omega) (by rw[e6,hv];exact hg) (by simpa [ints]using how) (fun k hk=>by
      rw[e6,hv];simp only[Value.ownBlock,Option.some.injEq]at hk;subst hk;exact hat.imp id (fun e=>by omega))
      (by rw[bW.eU _ _ (by omega)];exact k3.aU.aT i s.ah[i] fB) (by rw[<-e6,bW.pY];exact⟨rfl,rfl⟩) (by rw[bW.eU _ _ (by omega)];exact k3.aU.aQ i s.ah[i] fB)
      (fun x hx=>k3.ok.aQ i s.ah[i] fB x hx) (by rw[bW.eU _ _ (by omega),<-e6,bW.pY,bW.eU _ _ (by omega)];rfl)
     obtain⟨z1,z2,z3,z4⟩:=hp;have hRR:=k3.apart (t:=6+3 * i) (by omega) (by rw[hv];exact hg) k3.lM;have hgl:=k1.nH (b:=g) (by omega);have hGG:w3.heap[g]? =y.heap[g]? :=hg.block g (by omega) (fun e=>by have:=(k3.rows.each (6+3 * i) (by omega)).2 g (by rw[hv];exact e.symm);omega);refine⟨⟨?_,?_,?_⟩,z4,_,_,z1,((Lf.grown hy).trans k2).trans ((Lf.grown hy2).trans z2)⟩
     .rw[World.cell?_of_block hRR,<-hv];exact k3.gu (i:=i) (r:=s.ah[i]) fB rfl
     .rw[World.cell?_of_block hRR,<-hsv];exact k3.gu (i:=i) (r:=s.ah[i]) fB rfl
     .rw[World.cell?_of_block hGG];exact hy2.cell a10 (by simp)
    have ngR:¬g=R:=fun e=>by rw[e,h.lM]at nG;omega
    clear h hs hr hid fB hrow hsv hseg KF r1 r2 t1 hgd hgj nG hqq HH hv hjl hqb;generalize s.ah[i]=r at *;generalize (Hx.takes s.bQ s.kept q).1=d' at *;generalize (Hx.takes s.bQ s.kept q).2=k' at *;go_enter func39,ntmps39;go_wp2_with fail;refine HR.out.mono ?_;rintro e w0 ⟨rfl,rfl⟩;go_wp2_with fail;go_region_law
     ((first|(refine step_append_lies _ (by rfl) _ _ _ (by rfl) 0 3 T0 _ 1 8 Tryz.underlying91 hT0 hz0 hz1 hz2 (by rfl) (by omega) (.slice va r.aX.length vc) r.aX.length (ints r.aX) (by rfl) (HO.out _ (by repeat (first|exact World.grownBy.refl _ _|refine fG ?_|refine fH ?_|refine gB ?_))) (Ad w1.heap.size 0) 1 1 [Im (d':Int)] (by rfl) (by rfl) (World.news_of_block (cs:=#[Im (d':Int)]) (t:=3) (fr:=(0,0)) (heap_alloc_new w1 _)) (by simp[Value.oneCell']) (by omega) (by unfold maxLen;omega) (by omega) (by simp) (w1.heap.size+1) (by simp) ?_;intro gg cap1 w3 hown1 hgrow hat hlt;obtain⟨⟨s1,s2,s3⟩,s4,s5⟩:=HP.out _ _ _ _ (by repeat (first|exact World.grownBy.refl _ _|refine fG ?_|refine fH ?_|refine gB ?_)) hgrow hown1 hat (by simp);have HK:=bC s5;clear s5)|(go_simp;go_at_call 79;refine(HT.out _ (by repeat (first|exact World.grownBy.refl _ _|refine fG ?_|refine fH ?_))).mono ?_;rintro e w1 ⟨rfl,⟨q1,q2,q3⟩,n1,n2,HO,HP⟩)))
    all_goals
     clear HO HP HT hown1 hgrow hat;go_wp2_with fail;go_ret;exact⟨rfl,HK.out⟩
end
end
end Go.Proofs.YthllhabjfchgiaaGreatDoor
