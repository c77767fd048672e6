import Derived.Test.YthllhabjfchgiaaGreatDoorHs22
set_option maxRecDepth 100000
set_option maxHeartbeats 8000000
set_option linter.unusedSimpArgs false
namespace Go.Proofs.YthllhabjfchgiaaGreatDoor
open _root_.Go.Proofs.Tryz
section
open Go.RowKit Hx
attribute [local go_sem ↓] Go.wp_at_zero Go.wp_at_succ
attribute [local go_sem] kN
section
variable {s:ji}{ex:Ps->Ex×Ps}{d:Nat}{p:Ps}{r:Ex×Ps}
theorem ag3:(setOf p.k.text.data.toList).isSome=true↔(p.is [82,79,65,68,83]=true\/(p.is [82,79,65,68,83]=false/\p.is [70,82,69,83,72]=true)\/(p.is [82,79,65,68,83]=false/\p.is [70,82,69,83,72]=false/\p.is [65,71,65,73,78]=true)):=by
 unfold setOf Hx.Ps.is;cases a:(p.k.text.data.toList==[82,79,65,68,83])with
 |true=>simp
 |false=>
  cases b:(p.k.text.data.toList==[70,82,69,83,72])with
  |true=>simp
  |false=>
   cases c:(p.k.text.data.toList==[65,71,65,73,78])with
   |true=>simp
   |false=>simp
theorem aj1(c:s.size<=4000)(h:Reader s ex d)(n:Nat)(y:∀p,p.Ok s->Deep (d+1) p->(setOf p.k.text.data.toList).isSome=true->mX 275 [] s p (Ar s ex n p))(b:p.Ok s)(e:Deep (d+1) p):
 mX 270 [] s p (tX s ex n p):=by
 unfold tX;split
 .rename_i a;exact ajY c b a
 rename_i B;split
 .rename_i a;exact aj2 c b a
 rename_i C;split
 .rename_i a;exact aj6 c b a
 rename_i A;have f:Plain p:=⟨B,C,A⟩;split
 .rename_i a;refine aj3 c b f ?_;cases g:p.is [116,114,117,101]with
  |true=>exact jf rfl
  |false=>rw[g]at a;exact je ⟨rfl,by simpa using a⟩
 rename_i a;have m:p.is [116,114,117,101]=false:=by
  cases g:p.is [116,114,117,101]with
  |true=>rw[g]at a;simp at a
  |false=>rfl
 have o:p.is [102,97,108,115,101]=false:=by
  cases g:p.is [102,97,108,115,101]with
  |true=>rw[g]at a;simp at a
  |false=>rfl
 split
 .rename_i q;exact ajZ f m o q (Rf h.good b e).2 (adJ c h b e)
 rename_i q;have t:p.is [40]=false:=by simpa using q
 split
 .rename_i j;have i:=oC b (oW (by simp) j);exact ajX c b f m o t j (Rf h.good i.ok (e.good i)).2 (adJ c h i.ok (e.good i))
 rename_i j;have u:p.is [105,115,110,111,110,101]=false:=by simpa using j
 split
 .rename_i l;exact aj0 f m o t u (ag3.1 l) (y p b e l)
 .rename_i l;have D:¬(p.is [82,79,65,68,83]=true\/(p.is [82,79,65,68,83]=false/\p.is [70,82,69,83,72]=true)\/(p.is [82,79,65,68,83]=false/\p.is [70,82,69,83,72]=false/\p.is [65,71,65,73,78]=true)):=λv=>l (ag3.2 v);refine abm f m o t u ?_ ?_ ?_
  .cases hx:p.is [82,79,65,68,83]<;>simp_all
  .cases hx:p.is [82,79,65,68,83]<;>cases z:p.is [70,82,69,83,72]<;>simp_all
  .cases hx:p.is [82,79,65,68,83]<;>cases z:p.is [70,82,69,83,72]<;>cases E:p.is [65,71,65,73,78]<;>simp_all
def JV(b:Wd)(u:jm):jm:=.agg #[.string b.text,Im b.at',u]
theorem akG(a:Array jm)(w:jk)(g:Nat)(b:Wd)(u:jm)(c:a[2]? =some (Pt g 0))(h:w.heap[g]? =some (.cells #[.string b.text,Im b.at',u] 361)):
 (results Tryz.f257 a).run prog w=.ok (JV b u) w:=by
 have e:=jJ 0 h rfl;have f:=jJ 1 h rfl;have i:=jJ 2 h rfl;simp[results,Tryz.results257,go_sem,c,e,f,i,JV]
def ajh(s:ji)(p:Ps)(r:(Wd×Ex)×Ps):Prop:=
 ∀(P:Nat)(w:jk),jR w P s p->Calls prog 257 #[Pt P 0] w λe w'=>∃u,e=.returned (JV r.1.1 u)/\r.1.2.here r.1.2.at' w' w.heap.size w'.heap.size u/\jR w' P s r.2/\w.grownBy w' (some P)
theorem abG(E:s.size<=4000)(h:Reader s ex d)(I:p.Ok s)(hd:Deep (d+1) p):ajh s p (qm s ex p):=by
 intro P w Q;have aa:=Q.lt;have U:=I.ku [40];have d1:=hd.ku I (t:=[40]) (by simp);have D:=EZ U;have C:=yN D.ok (t:=[58]) (by simp);have M:=d1.good (D.trans C);obtain⟨g1,o⟩:=h.good _ C.ok M;have O:w.grownBy (w.alloc (.cells #[.string ⟨#[]⟩,Im 0,.nilIface] 361)) none:=ah w _ none;have c:(w.alloc (.cells #[.string ⟨#[]⟩,Im 0,.nilIface] 361)).heap[w.heap.size]? =some (.cells #[.string ⟨#[]⟩,Im 0,.nilIface] 361):=aY w _;have Y:=jA (O4 (Q.grow O) I E [40]);have A:=jA (λx (k:jR x P s (p.ku s [40]))=>KR k U E);have L:Hid (∀x,jR x P s ((p.ku s [40]).name s).2->Calls prog 239 #[Pt P 0,.string ⟨#[58]⟩] x (qN P s x (.tuple #[]) (((p.ku s [40]).name s).2.expect s [58]))):=λx k=>EW k D.ok E [58];have Z:=jA (λx (k:jR x P s (((p.ku s [40]).name s).2.expect s [58]))=>h.reads _ C.ok M P x k);have H4:=jA (λx (k:jR x P s (ex (((p.ku s [40]).name s).2.expect s [58])).2)=>NG k g1.ok E [41]);have j:P≠w.heap.size:=by omega
 have HB:Hid (∀l,(w.alloc (.cells #[.string ⟨#[]⟩,Im 0,.nilIface] 361)).grownBy l (some P)->l.heap[w.heap.size]? =some (.cells #[.string ⟨#[]⟩,Im 0,.nilIface] 361)/\w.grownBy l (some P)):=λl hg=>
  ⟨(hg.block _ (lT c) (by simpa using Ne.symm j)).trans c,(O.but _).trans hg⟩
 show Calls prog 257 #[Pt P 0] w λe J=>∃u,e=.returned (JV ((p.ku s [40]).name s).1 u)/\(ex (((p.ku s [40]).name s).2.expect s [58])).1.here (ex (((p.ku s [40]).name s).2.expect s [58])).1.at' J w.heap.size J.heap.size u/\jR J P s ((ex (((p.ku s [40]).name s).2.expect s [58])).2.close s [41])/\w.grownBy J (some P);generalize ex (((p.ku s [40]).name s).2.expect s [58])=V at *;generalize ((p.ku s [40]).name s).2.expect s [58]=q3 at *;generalize (p.ku s [40]).name s=dq at *;generalize p.ku s [40]=q1 at *;generalize V.2.close s [41]=q4 at *;obtain⟨⟨i,g⟩,q2⟩:=dq;have A:Hid (∀x,jR x P s q1->Calls prog 232 #[Pt P 0] x (qN P s x (.agg #[.string i,Im g]) q2)):=A.out;have q:=jA o;simp only at L⊢;clear Q U d1 D C M g1 o I hd h O c;go_enter func257,ntmps257;go_wp2_with fail;refine Y.out.mono ?_;rintro e l ⟨rfl,p1,k1⟩;have G:=jA (jd p1 k1);clear p1 k1 Y;go_wp2_with fail;refine(A.out _ G.out.1).mono ?_;rintro e m ⟨rfl,p2,T⟩;have a:Hid (jR (m.alloc (.cells #[.string i,Im g] 316)) P s q2/\l.grownBy (m.alloc (.cells #[.string i,Im g] 316)) (some P)/\(m.alloc (.cells #[.string i,Im g] 316)).heap[m.heap.size]? =some (.cells #[.string i,Im g] 316)/\l.heap.size<=m.heap.size):=⟨p2.grow (ah _ _ none),T.trans ((ah _ _ none).but _),aY _ _,T.size⟩;clear p2 T A;go_wp2_with fail;refine(L.out _ a.out.1).mono ?_;rintro e w3 ⟨rfl,p3,k3⟩;have H:=jA (jd p3 k3);clear p3 k3 L;go_wp2_with fail;refine(Z.out _ H.out.1).mono ?_
 rintro e w4 ⟨v,rfl,N,p4,k4⟩;obtain⟨B,z,S,_⟩:=q.out.head _ _ _ _ _ N;subst S;have y:=jA (jd N (jd p4 k4));clear N p4 k4 Z;go_wp2_with fail;refine(H4.out _ y.out.2.1).mono ?_;rintro e f ⟨rfl,p5,F⟩;have HW:Hid (jR f P s q4/\w.grownBy f (some P)/\f.heap[w.heap.size]? =some (.cells #[.string ⟨#[]⟩,Im 0,.nilIface] 361)/\f.heap[m.heap.size]? =some (.cells #[.string i,Im g] 316)/\V.1.here V.1.at' f w3.heap.size f.heap.size (.iface B (Pt z 0))/\w.heap.size<w3.heap.size/\w.heap.size≠m.heap.size):=by
  have s1:=G.out.2.size;rw[oz]at s1;have s2:=a.out.2.1.size;have ad:=a.out.2.2.2;have s3:=H.out.2.size;have s4:=y.out.2.2.size;have kA:=H.out.2.trans (y.out.2.2.trans F);obtain⟨b1,b2⟩:=HB.out f (G.out.2.trans (a.out.2.1.trans kA));refine⟨p5,b2,b1,(kA.block _ (lT a.out.2.2.1) (by simp;omega)).trans a.out.2.2.1,?_,by omega,by omega⟩;exact(q.out.law _).wide _ _ _ _ _ _ (q.out.keep y.out.1 (by omega) (aj _) F) (aj _) F.size
 obtain⟨o,W,n,K,X,x6,x7⟩:=HW.out;have q0:=jJ 0 n rfl;have ab:=jJ 1 n rfl;have ac:=jJ 2 n rfl;have rf:=qV n;have y0:=jJ 0 K rfl;have y1:=jJ 1 K rfl;clear o W n K X p5 F H4 G a H y HB;go_wp2_with fail;obtain⟨o,W,n,K,X,x6,x7⟩:=HW.out;have z3:=Hy f w.heap.size _ _ _ _ (.string i) (Im g) (.iface B (Pt z 0)) n;refine cu (akG _ _ w.heap.size ⟨i,g⟩ (.iface B (Pt z 0)) rfl z3) rfl ⟨_,rfl,?_,((o.Ej j _ _).Ej j _ _).Ej j _ _,pR (pR (pR W (aj _) _ _) (aj _) _ _) (aj _) _ _⟩;have R:(((f.setCell (Ad w.heap.size 0) (.string i)).setCell (Ad w.heap.size 1) (Im g)).setCell (Ad w.heap.size 2) (.iface B (Pt z 0))).heap.size=f.heap.size:=by simp[World.setCell]
 rw[R];refine(q.out.law _).wide _ _ _ _ _ _ ((q.out.law _).loc _ _ _ _ _ X (λb b1 _=>?_)) (by omega) (aj _);rw[bC _ _ _ _ (by simp only;omega),bC _ _ _ _ (by simp only;omega),bC _ _ _ _ (by simp only;omega)]
end
section
variable {s:ji}{ex:Ps->Ex×Ps}{d:Nat}{p:Ps}{r:Ex×Ps}{x:Sx}
def DI(fn:FuncId)(kind:Int)(s:ji)(x:Sx)(p:Ps)(r:Ex×Ps):Prop:=
 ∀(P:Nat)(w:jk)(lo:Nat)(u:jm),jR w P s p->P<lo->oZ x w lo w.heap.size u->lo<=w.heap.size->Calls prog fn #[Pt P 0,u,Im kind] w λen w'=>∃v,en=.returned v/\r.1.here r.1.at' w' lo w'.heap.size v/\jR w' P s r.2/\w.grownBy w' (some P)
theorem xu{w:jk}{lo hi:Nat}{v:jm}(h:oZ x w lo hi v):∃S a,v=Pt S 0/\lo<=S/\S<hi/\w.heap[S]? =some (.cells #[Im x.at',Im x.jw,.string x.base,Im x.of,a] 348):=by
 obtain⟨S,a,b,c,e,f,_⟩:=h;exact⟨S,a,b,c,e,f⟩
theorem pF.keep(h:pF x){w w':jk}{lo hi P:Nat}{v:jm}(c:oZ x w lo hi v)(i:P<lo)(e:hi<=w.heap.size)(a:w.grownBy w' (some P)):oZ x w' lo hi v:=
 h.law.loc _ _ _ _ _ c λb f g=>a.block b (by omega) (by simp;omega)
theorem abh(Z:s.size<=4000)(I:p.Ok s)(B:pF x)(kind:Int):DI 277 kind s x p (Nv s x kind p):=by
 intro P w lo u h o z Y;have E:Hid (Calls prog 236 #[Pt P 0] w (qN P s w (.agg #[Im p.k.kind,.string p.k.text,Im p.k.at']) (p.next s))):=xQ h I Z;obtain⟨S,fv,A,s1,s2,K⟩:=xu z;subst A;have F:=jA (jd z K);have G:Hid (pF x):=B;have W:=NS p.k.kind p.k.at' p.k.text;have n:=B.jw;show Calls prog 277 #[Pt P 0,Pt S 0,Im kind] w λV c=>∃v,V=.returned v/\(rH 410 412 x.at' (jS [x.jw]) kind (oD (oZ x)) (λus=>.string p.k.text::us)).here x.at' c lo c.heap.size v/\jR c P s (p.next s)/\w.grownBy c (some P);generalize p.next s=q at *;generalize p.k.kind=kk at *;generalize p.k.text=kt at *;generalize p.k.at'=ka at *;clear h z K B I;go_enter func277,ntmps277;go_wp2_with fail;refine E.out.mono ?_;rintro e a ⟨rfl,J,D⟩;have b:=(D.block S s2 (by simp;omega)).trans F.out.2;have c0:=jJ 0 b rfl;have H:=jJ 1 b rfl;have R:=lT b;have n1:¬S=a.heap.size:=by omega
 have n2:¬S=a.heap.size+1:=by omega
 have n3:¬S=a.heap.size+1+1:=by omega
 have N:Hid (Calls prog 234 #[Im x.at',.slice (some (Ad a.heap.size 0)) 1 1] (a.alloc (.cells #[Im x.jw] 3)).drew λe c=>e=.returned (.agg #[Im x.at',Im (jS [x.jw])])/\c=((a.alloc (.cells #[Im x.jw] 3)).drew.alloc (.cells #[Im x.at',Im (jS [x.jw])] 323)).alloc (.cells #[Im 1,Im (kZ [x.jw])] 3)):=by
  refine KT x.at' _ [x.jw] ⟨by simpa using n,by simp,je ⟨_,_,rfl,λi y C=>?_⟩⟩
  match i,C with
  |0,C=>
   cases C;have X:(a.alloc (.cells #[Im x.jw] 3)).drew.heap[a.heap.size]? =some (.cells #[Im x.jw] 3):=aY a _;exact jG X
 have m:=jA (jd J D);clear J D b E;generalize j:x.at'=xa at *;generalize l:x.jw=M at *;have Q:=jA (jd j l);clear j l;go_upto_region 2 with fail;go_cut [6] (λr L=>r=.iface 410 (Pt (a.heap.size+1+1+1) 0)/\L.heap[a.heap.size+1+1+1]? =some (.cells #[Im xa,Im (jS [M]),Im kind,.string kt,Pt S 0] 412)/\a.grownBy L none)
 case first=>
  go_region_with (first|(go_at_call 244;refine(uq S 0 M (by first|exact H|(simp;exact H))).mono ?_;rintro e c ⟨rfl,rfl⟩)|(go_at_call 234;refine N.out.mono ?_;rintro e c ⟨rfl,rfl⟩));all_goals (go_wp2_with fail;go_meet;exact⟨rfl,(QA a _ _ _ _).1,(QA a _ _ _ _).2⟩)
 case rest=>
  obtain⟨rfl,f,g⟩:=hcut;have O:=jA (jd f g);clear f g;go_wp2_with fail;go_ret;obtain⟨f,g⟩:=O.out;obtain⟨T,U⟩:=Q.out;rw[<-T,<-U]at f;have s0:=m.out.2.size;have t:=G.out.keep F.out.1 o (aj _) (m.out.2.trans (g.but _));exact⟨_,rfl,⟨_,_,rfl,by omega,lT f,⟨_,rfl,G.out.law.wide _ _ _ _ _ _ t (aj _) (by omega)⟩,f⟩,m.out.1.grow g,m.out.2.trans (g.but _)⟩
end
section
variable {w:jk}{x:Sx}
theorem au0(w:jk)(b cap:Nat)(xs:List Int)(t:∀x∈xs,0<=x/\x<=100000000)(E:xs.length<=1000000)(l:∀(i:Nat)(x:Int),xs[i]? =some x->w.cell? (Ad b i)=some (Im x)):
 Calls prog 143 #[.slice (some (Ad b 0)) xs.length cap] w λe A=>e=.returned (Im (kZ xs))/\A=w:=by
 have j:Hid (kZ xs=(xs.drop 0).foldl (λa c=>min (a+c) 1000001) 0):=rfl;generalize q:kZ xs=r at *;clear q;go_enter func143,ntmps143;go_wp2;go_loop [3,5,8] (λa _ i=>∃(k:Nat)(z:Int),k<=xs.length/\0<=z/\z<=1000001/\a=Im z/\i=Im k/\Hid (r=(xs.drop k).foldl (λa c=>min (a+c) 1000001) z)) (λ_ _ i=>xs.length-(intOf i).toNat)
 case atStart=>exact⟨0,0,bD _,by omega,by omega,rfl,rfl,j⟩
 case round=>
  obtain⟨k,z,D,H,I,rfl,rfl,g⟩:=hrel;clear j;by_cases f:k<xs.length
  .have o:decide ((k:Int)<(xs.length:Int))=true:=by simp;omega
   have F:(0:Int)<=(k:Int):=by omega
   have G:(k:Int)<(xs.length:Int):=by omega
   have m:xs[k]? =some xs[k]:=bU f;have B:=l k _ m;have C:=t _ (fG f);have h:=g.out;rw[ah1 xs k f]at h;generalize xs[k]=x at *;have v:Hid (∀y,y=min (z+x) 1000001->r=(xs.drop (k+1)).foldl (λa c=>min (a+c) 1000001) y):=λy u=>by rw[u];exact h
   clear g h m l;generalize xs.length=n at *;go_wp2;all_goals (refine⟨⟨k+1,_,by omega,?_,?_,rfl,by go_num,v.out _ (by omega)⟩,by simp[intOf];omega⟩)
   all_goals omega
  .have o:decide ((k:Int)<(xs.length:Int))=false:=by simp;omega
   have e:r=z:=by rw[g.out,fH (by omega)];rfl
   subst e;clear g;go_wp2;go_ret;exact⟨rfl,rfl⟩
theorem atA{S:Nat}{b:Int}(h:w.cell? (Ad S 3)=some (Im b)):Calls prog 258 #[Pt S 0] w λe c=>e=.returned (Im (if b=3 then 8 else 16))/\c=w:=by
 by_cases a:b=3
 .subst a;go_enter func258,ntmps258;go_wp2;go_ret;exact⟨rfl,rfl⟩
 .have f:(b==3)=false:=by simp[a]
  rw[jg a];go_enter func258,ntmps258;go_wp2;go_ret;exact⟨rfl,rfl⟩
theorem SL{S:Nat}(h:w.cell? (Ad S 3)=some (Im x.of))(c:Int)(u:0<=c/\c<=1000001):Calls prog 245 #[Pt S 0,Im c] w λe a=>e=.returned (Im (x.round c))/\
 a=(w.alloc (.cells #[Im 1,Im c] 3)).alloc (.cells #[Im ((if x.of=3 then 8 else 16) * kZ [1,c])] 3):=by
 have C:=xZ [1,c] (by simp;omega);have j:Hid (Calls prog 143 #[.slice (some (Ad w.heap.size 0)) 2 2] (w.alloc (.cells #[Im 1,Im c] 3)) λe a=>e=.returned (Im (kZ [1,c]))/\a=w.alloc (.cells #[Im 1,Im c] 3)):=
  Px (Jw w _ 1 c (by omega) (by omega) u.1 u.2)
 have v:Hid (Calls prog 258 #[Pt S 0] w λe a=>e=.returned (Im (if x.of=3 then 8 else 16))/\a=w):=atA h;have l:(if x.of=3 then 8 else 16:Int)=8\/(if x.of=3 then 8 else 16:Int)=16:=by split;exact jf rfl;exact je rfl
 have q:x.round c=kZ [(if x.of=3 then 8 else 16) * kZ [1,c]]:=rfl;rw[q];generalize (if x.of=3 then 8 else 16:Int)=z at *;generalize kZ [1,c]=t at *;have n:0<=z * t/\z * t<=100000000:=by rcases l with rfl|rfl<;>omega
 have k:Hid (∀y,y=z * t->Calls prog 143 #[.slice (some (Ad (w.heap.size+1) 0)) 1 1] ((w.alloc (.cells #[Im 1,Im c] 3)).alloc (.cells #[Im y] 3)) λe a=>e=.returned (Im (kZ [z * t]))/\a=(w.alloc (.cells #[Im 1,Im c] 3)).alloc (.cells #[Im (z * t)] 3)):=λy g=>by
  subst g;refine au0 _ (w.heap.size+1) 1 [z * t] (by simpa using n) (by simp) (λi y g=>?_)
  match i,g with
  |0,g=>
   cases g;have A:((w.alloc (.cells #[Im 1,Im c] 3)).alloc (.cells #[Im (z * t)] 3)).heap[w.heap.size+1]? =some (.cells #[Im (z * t)] 3):=by
    rw[<-oz w (Obj.cells #[Im 1,Im c] 3)];exact aY _ _
   exact jG A
 clear h q;go_enter func245,ntmps245;go_wp2_with fail;refine v.out.mono ?_;rintro e D ⟨rfl,b⟩;rw[b];clear b;go_wp2_with fail;refine j.out.mono ?_;rintro e E ⟨rfl,f⟩;rw[f];clear f;have B:wrap64 (z * t)=z * t:=by unfold wrap64;omega
 generalize o:z * t=G at *;go_wp2_with fail;refine(k.out _ (by omega)).mono ?_;rintro e F ⟨rfl,m⟩;rw[m];go_wp2_with fail;go_ret;subst o;exact⟨rfl,rfl⟩
end
section
variable {s:ji}{ex:Ps->Ex×Ps}{d:Nat}{p:Ps}{r:Ex×Ps}{x:Sx}
def zk(s:ji)(p:Ps)(r:(Sx×Bool)×Ps):Prop:=
 ∀(P:Nat)(w:jk),jR w P s p->Calls prog 243 #[Pt P 0] w λe w'=>∃u,e=.returned (.tuple #[u,.bool r.1.2])/\oZ r.1.1 w' w.heap.size w'.heap.size u/\jR w' P s r.2/\w.grownBy w' (some P)
theorem arN{x:Sx}{q:Ps}(a:zk s p ((x,true),q))(A:q.is [99,111,117,110,116]=true)(t:pF x)(o:DI 277 1 s x q r):mX 275 [] s p r:=by
 intro P w h;have j:=h.lt;have m:=jA (a P w h);have A:=lK A;have D:=jA t;have l:=jA (λ(y:jk)(u:jm)(b:jR y P s q)(c:oZ x y w.heap.size y.heap.size u)(f:w.heap.size<=y.heap.size)=>o P y w.heap.size u b j c f);clear h a o t;go_enter func275,ntmps275;go_wp2_with fail;refine m.out.mono ?_;rintro e J ⟨u,rfl,i,k,n⟩;obtain⟨S,G,C,H,I,z⟩:=xu i;subst C;have E:=kH.c2 k;have F:=jJ 3 z rfl;have g:=jA (jd i (jd k n));clear i k n z m;go_wp2_with fail;refine(l.out _ _ g.out.2.1 g.out.1 g.out.2.2.size).mono ?_;rintro e K ⟨v,rfl,b,c,f⟩;have B:=jA (jd b (jd c (g.out.2.2.trans f)));clear b c f l;go_wp2_with fail;go_ret;exact⟨_,rfl,B.out⟩
theorem arP{x:Sx}{q:Ps}(a:zk s p ((x,true),q))(A:q.is [99,111,117,110,116]=false)(B:q.is [102,105,114,115,116]=true)(t:pF x)(o:DI 277 x.of s x q r):mX 275 [] s p r:=by
 intro P w h;have j:=h.lt;have m:=jA (a P w h);have A:=lK A;have B:=lK B;have E:=jA t;have l:=jA (λ(y:jk)(u:jm)(b:jR y P s q)(c:oZ x y w.heap.size y.heap.size u)(f:w.heap.size<=y.heap.size)=>o P y w.heap.size u b j c f);clear h a o t;go_enter func275,ntmps275;go_wp2_with fail;refine m.out.mono ?_;rintro e K ⟨u,rfl,i,k,n⟩;obtain⟨S,H,D,I,J,z⟩:=xu i;subst D;have F:=kH.c2 k;have G:=jJ 3 z rfl;have g:=jA (jd i (jd k n));clear i k n z m;go_wp2_with fail;refine(l.out _ _ g.out.2.1 g.out.1 g.out.2.2.size).mono ?_;rintro e L ⟨v,rfl,b,c,f⟩;have C:=jA (jd b (jd c (g.out.2.2.trans f)));clear b c f l;go_wp2_with fail;go_ret;exact⟨_,rfl,C.out⟩
theorem arS{x:Sx}{q:Ps}(a:zk s p ((x,true),q))(A:q.is [99,111,117,110,116]=false)(B:q.is [102,105,114,115,116]=false)(C:q.is [109,105,110]=true)(t:pF x)(o:DI 278 x.of s x q r):mX 275 [] s p r:=by
 intro P w h;have j:=h.lt;have m:=jA (a P w h);have A:=lK A;have B:=lK B;have C:=lK C;have F:=jA t;have l:=jA (λ(y:jk)(u:jm)(b:jR y P s q)(c:oZ x y w.heap.size y.heap.size u)(f:w.heap.size<=y.heap.size)=>o P y w.heap.size u b j c f);clear h a o t;go_enter func275,ntmps275;go_wp2_with fail;refine m.out.mono ?_;rintro e L ⟨u,rfl,i,k,n⟩;obtain⟨S,I,E,J,K,z⟩:=xu i;subst E;have G:=kH.c2 k;have H:=jJ 3 z rfl;have g:=jA (jd i (jd k n));clear i k n z m;go_wp2_with fail;refine(l.out _ _ g.out.2.1 g.out.1 g.out.2.2.size).mono ?_;rintro e M ⟨v,rfl,b,c,f⟩;have D:=jA (jd b (jd c (g.out.2.2.trans f)));clear b c f l;go_wp2_with fail;go_ret;exact⟨_,rfl,D.out⟩
theorem arR{x:Sx}{q:Ps}(a:zk s p ((x,true),q))(A:q.is [99,111,117,110,116]=false)(B:q.is [102,105,114,115,116]=false)(C:q.is [109,105,110]=false)(D:q.is [109,97,120]=true)(t:pF x)(o:DI 278 x.of s x q r):mX 275 [] s p r:=by
 intro P w h;have j:=h.lt;have m:=jA (a P w h);have A:=lK A;have B:=lK B;have C:=lK C;have D:=lK D;have G:=jA t;have l:=jA (λ(y:jk)(u:jm)(b:jR y P s q)(c:oZ x y w.heap.size y.heap.size u)(f:w.heap.size<=y.heap.size)=>o P y w.heap.size u b j c f);clear h a o t;go_enter func275,ntmps275;go_wp2_with fail;refine m.out.mono ?_;rintro e M ⟨u,rfl,i,k,n⟩;obtain⟨S,J,F,K,L,z⟩:=xu i;subst F;have H:=kH.c2 k;have I:=jJ 3 z rfl;have g:=jA (jd i (jd k n));clear i k n z m;go_wp2_with fail;refine(l.out _ _ g.out.2.1 g.out.1 g.out.2.2.size).mono ?_;rintro e N ⟨v,rfl,b,c,f⟩;have E:=jA (jd b (jd c (g.out.2.2.trans f)));clear b c f l;go_wp2_with fail;go_ret;exact⟨_,rfl,E.out⟩
theorem arW{x:Sx}{q:Ps}(a:zk s p ((x,true),q))(A:q.is [99,111,117,110,116]=false)(B:q.is [102,105,114,115,116]=false)(C:q.is [109,105,110]=false)(D:q.is [109,97,120]=false)(E:q.is [115,117,109]=true)(t:pF x)(o:DI 278 1 s x q r):mX 275 [] s p r:=by
 intro P w h;have j:=h.lt;have m:=jA (a P w h);have A:=lK A;have B:=lK B;have C:=lK C;have D:=lK D;have E:=lK E;have H:=jA t;have l:=jA (λ(y:jk)(u:jm)(b:jR y P s q)(c:oZ x y w.heap.size y.heap.size u)(f:w.heap.size<=y.heap.size)=>o P y w.heap.size u b j c f);clear h a o t;go_enter func275,ntmps275;go_wp2_with fail;refine m.out.mono ?_;rintro e N ⟨u,rfl,i,k,n⟩;obtain⟨S,K,G,L,M,z⟩:=xu i;subst G;have I:=kH.c2 k;have J:=jJ 3 z rfl;have g:=jA (jd i (jd k n));clear i k n z m;go_wp2_with fail;refine(l.out _ _ g.out.2.1 g.out.1 g.out.2.2.size).mono ?_;rintro e O ⟨v,rfl,b,c,f⟩;have F:=jA (jd b (jd c (g.out.2.2.trans f)));clear b c f l;go_wp2_with fail;go_ret;exact⟨_,rfl,F.out⟩
theorem arM{x:Sx}{q:Ps}(a:zk s p ((x,true),q))(A:q.is [99,111,117,110,116]=false)(B:q.is [102,105,114,115,116]=false)(C:q.is [109,105,110]=false)(D:q.is [109,97,120]=false)(E:q.is [115,117,109]=false)(F:q.is [97,110,121]=true)(t:pF x)(o:DI 278 2 s x q r):mX 275 [] s p r:=by
 intro P w h;have j:=h.lt;have m:=jA (a P w h);have A:=lK A;have B:=lK B;have C:=lK C;have D:=lK D;have E:=lK E;have F:=lK F;have I:=jA t;have l:=jA (λ(y:jk)(u:jm)(b:jR y P s q)(c:oZ x y w.heap.size y.heap.size u)(f:w.heap.size<=y.heap.size)=>o P y w.heap.size u b j c f);clear h a o t;go_enter func275,ntmps275;go_wp2_with fail;refine m.out.mono ?_;rintro e O ⟨u,rfl,i,k,n⟩;obtain⟨S,L,H,M,N,z⟩:=xu i;subst H;have J:=kH.c2 k;have K:=jJ 3 z rfl;have g:=jA (jd i (jd k n));clear i k n z m;go_wp2_with fail;refine(l.out _ _ g.out.2.1 g.out.1 g.out.2.2.size).mono ?_;rintro e Q ⟨v,rfl,b,c,f⟩;have G:=jA (jd b (jd c (g.out.2.2.trans f)));clear b c f l;go_wp2_with fail;go_ret;exact⟨_,rfl,G.out⟩
theorem arU{x:Sx}{q:Ps}(a:zk s p ((x,true),q))(m:q.is [99,111,117,110,116]=false)(n:q.is [102,105,114,115,116]=false)(o:q.is [109,105,110]=false)(t:q.is [109,97,120]=false)(v:q.is [115,117,109]=false)(y:q.is [97,110,121]=false):mX 275 [] s p (rJ,q.fail):=by
 intro P w h;have g:=jA (a P w h);have m:=lK m;have n:=lK n;have o:=lK o;have t:=lK t;have v:=lK v;have y:=lK y;clear h a;go_enter func275,ntmps275;go_wp2_with fail;refine g.out.mono ?_;rintro e F ⟨u,rfl,i,f,j⟩;obtain⟨S,C,z,D,E,A⟩:=xu i;subst z;have B:=kH.c2 f;have c:=jA (jd f j);clear i f j A g;go_wp2_with fail;refine(EX c.out.1).mono ?_;rintro e G ⟨rfl,k,l⟩;have b:=jA (jd k (c.out.2.trans l));clear k l c;go_wp2_with fail;go_ret;exact⟨_,rfl,Kz b.out.2.size 0 rfl,b.out.1.grow (ah _ _ none),b.out.2.trans ((ah _ _ none).but _)⟩
theorem arT{x:Sx}{q:Ps}(a:zk s p ((x,false),q)):mX 275 [] s p (rJ,q.fail):=by
 intro P w h;have g:=jA (a P w h);clear h a;go_enter func275,ntmps275;go_wp2_with fail;refine g.out.mono ?_;rintro e z ⟨u,rfl,i,f,j⟩;obtain⟨S,t,m,v,y,n⟩:=xu i;subst m;have o:=kH.c2 f;have c:=jA (jd f j);clear i f j n g;go_wp2_with fail;refine(EX c.out.1).mono ?_;rintro e A ⟨rfl,k,l⟩;have b:=jA (jd k (c.out.2.trans l));clear k l c;go_wp2_with fail;go_ret;exact⟨_,rfl,Kz b.out.2.size 0 rfl,b.out.1.grow (ah _ _ none),b.out.2.trans ((ah _ _ none).but _)⟩
theorem arV(y:s.size<=4000)(h:Reader s ex d)(n:Nat)(k:∀p,p.Ok s->Deep (d+1) p->zk s p (nB s ex n p))(o:∀(x:Sx)(q:Ps)(f:Int),q.Ok s->Deep (d+1) q->¬o9 q->pF x->DI 278 f s x q (Ec s ex x f q))
 (z:p.Ok s)(u:Deep (d+1) p):mX 275 [] s p (Ar s ex n p):=by
 have e:=k p z u;obtain⟨c,a⟩:=SY h.good n z u;unfold Ar;generalize nB s ex n p=A at *;obtain⟨⟨x,b⟩,q⟩:=A;simp only at c a⊢;have m:=u.good c;cases b with
 |false=>exact arT e
 |true=>
  simp only[dM];unfold FD;cases g:q.is [99,111,117,110,116]with
  |true=>exact arN e g a (abh y c.ok a 1)
  |false=>
  cases i:q.is [102,105,114,115,116]with
  |true=>exact arP e g i a (abh y c.ok a x.of)
  |false=>
  cases j:q.is [109,105,110]with
  |true=>exact arS e g i j a (o x q x.of c.ok m (oW (by simp) j) a)
  |false=>
  cases l:q.is [109,97,120]with
  |true=>exact arR e g i j l a (o x q x.of c.ok m (oW (by simp) l) a)
  |false=>
  cases t:q.is [115,117,109]with
  |true=>exact arW e g i j l t a (o x q 1 c.ok m (oW (by simp) t) a)
  |false=>
  cases v:q.is [97,110,121]with
  |true=>exact arM e g i j l t v a (o x q 2 c.ok m (oW (by simp) v) a)
  |false=>exact arU e g i j l t v
end
end
namespace Hx
open Go.RowKit
structure jI where
 jw:Int
 here:tk
 does:Ds
def tJ(g:Nat):List jI->jk->Nat->Nat->List jm->Prop
 |[],_,_,_,us=>us=[]
 |b::bs,w,lo,hi,us=>∃l m u us',us=u::us'/\lo<=l/\l<=m/\m<=hi/\(g<l\/m<=g)/\b.here w l m u/\tJ g bs w m hi us'
def aei(T:jo)(l:List jI):tk:=λw lo hi v=>
 (l=[]/\v=Nl)\/
 ∃g cap us arr,v=.slice (some (Ad g 0)) l.length cap/\lo<=g/\g<hi/\tJ g l w lo hi us/\w.heap[g]? =some (.cells arr T)/\∀(j:Nat)(v:jm),us[j]? =some v->arr[j]? =some v
theorem LK{g:Nat}:∀{a:List jI}{w n:jk}{f e:Nat}{j:List jm},(∀b∈a,Lawful b.here)->tJ g a w f e j->(∀b,f<=b->b<e->n.heap[b]? =w.heap[b]?)->tJ g a n f e j
 |[],_,_,_,_,_,_,h,_=>h
 |b::a,_,_,_,_,_,hl,⟨l,m,u,us',h0,h1,h2,h3,h4,h5,h6⟩,hk=>
  ⟨l,m,u,us',h0,h1,h2,h3,h4,(hl b (aW ..)).loc _ _ _ _ _ h5 (λk q i=>hk k (by omega) (by omega)),LK (λc o=>hl c (aI _ o)) h6 (λk q i=>hk k (by omega) i)⟩
theorem Yn{g:Nat}:∀{b:List jI}{w:jk}{e c a:Nat}{f:List jm},tJ g b w e c f->c<=a->tJ g b w e a f
 |[],_,_,_,_,_,h,_=>h
 |_::_,_,_,_,_,_,⟨l,m,u,us',h0,h1,h2,h3,h4,h5,h6⟩,hh=>⟨l,m,u,us',h0,h1,h2,by omega,h4,h5,Yn h6 hh⟩
theorem auL{g:Nat}{bs:List jI}{w:jk}{lo a hi:Nat}{e:List jm}(h:tJ g bs w lo hi e)(q:a<=lo):tJ g bs w a hi e:=by
 cases bs with
 |nil=>exact h
 |cons b bs=>
  obtain⟨l,m,u,c,f,t,i,j,k,n,o⟩:=h;exact⟨l,m,u,c,f,by omega,i,j,k,n,o⟩
theorem ahM{g:Nat}:∀{e:List jI}{w:jk}{a l m f:Nat}{c:List jm}{b:jI}{u:jm},tJ g e w a l c->b.here w l m u->a<=l->l<=m->m<=f->(g<l\/m<=g)->tJ g (e++[b]) w a f (c++[u])
 |[],_,_,l,m,_,c,b,u,h,hb,h1,h2,h3,hg=>by
  have h:=h;subst h;exact⟨l,m,u,[],rfl,h1,h2,h3,hg,hb,rfl⟩
 |_::_,_,_,_,_,_,_,_,u,⟨l',m',v,us',h0,h1,h2,h3,h4,h5,h6⟩,hb,k1,k2,k3,hg=>by
  subst h0;exact⟨l',m',v,us'++[u],rfl,h1,h2,by omega,h4,h5,ahM h6 hb h3 k2 k3 hg⟩
theorem ahL{g c:Nat}:∀{b:List jI}{w:jk}{e a:Nat}{f:List jm},tJ g b w e a f->a<=c->tJ c b w e a f
 |[],_,_,_,_,h,_=>h
 |_::_,_,_,_,_,⟨l,m,u,us',h0,h1,h2,h3,_,h5,h6⟩,hh=>⟨l,m,u,us',h0,h1,h2,h3,je (by omega),h5,ahL h6 hh⟩
theorem Rz{T:jo}{l:List jI}(u:∀b∈l,Lawful b.here):Lawful (aei T l):=by
 constructor
 .rintro w C A q v (h|⟨g,c,n,a,e,f,i,j,k,m⟩) o
  .exact jf h
  .exact je ⟨g,c,n,a,e,f,i,LK u j o,(o g f i).trans k,m⟩
 .rintro w A q B t v (h|⟨g,c,n,a,e,f,i,j,k,m⟩) y z
  .exact jf h
  .exact je ⟨g,c,n,a,e,by omega,by omega,Yn (auL j y) z,k,m⟩
def qO(s:ji)(ex:Ps->Ex×Ps)(p:Ps):Ex×Ps:=((ex (p.expect s [61])).1,(ex (p.expect s [61])).2.expect s [59])
end Hx
section
open Go.RowKit Hx
attribute [local go_sem ↓] Go.wp_at_zero Go.wp_at_succ
attribute [local go_sem] kN
section
variable {s:ji}{ex:Ps->Ex×Ps}{d:Nat}{p:Ps}{r:Ex×Ps}
theorem J7(h:qI s ex d)(g:p.Ok s)(f:Deep d p):mW s p (qO s ex p).2/\kT (qO s ex p).1:=by
 have a:=yN g (t:=[61]) (by simp);obtain⟨b,c⟩:=h _ a.ok (f.good a);have e:=yN b.ok (t:=[59]) (by simp);exact⟨(a.trans b).trans e,c⟩
theorem VA(B:s.size<=4000)(h:Reader s ex d)(k:p.Ok s)(A:Deep d p):mX 233 [] s p (qO s ex p):=by
 intro P w i;have O:=i.lt;have b:=yN k (t:=[61]) (by simp);have g:=A.good b;obtain⟨z,K⟩:=h.good _ b.ok g;have l:=jA (EW i k B [61]);have m:=jA (λx (j:jR x P s (p.expect s [61]))=>h.reads _ b.ok g P x j);have n:=jA (λx (j:jR x P s (ex (p.expect s [61])).2)=>EW j z.ok B [59]);show Calls prog 233 #[Pt P 0] w λe c=>∃v,e=.returned v/\(ex (p.expect s [61])).1.here (ex (p.expect s [61])).1.at' c w.heap.size c.heap.size v/\jR c P s ((ex (p.expect s [61])).2.expect s [59])/\w.grownBy c (some P);generalize ex (p.expect s [61])=J at *;generalize p.expect s [61]=q at *;generalize J.2.expect s [59]=V at *;have o:Hid (kT J.1):=K;clear i g b z K k A h;go_enter func233,ntmps233;go_wp2_with fail;refine l.out.mono ?_;rintro e W ⟨rfl,G,C⟩;have F:=jA (jd G C);clear G C l;go_wp2_with fail;refine(m.out _ F.out.1).mono ?_;rintro e X ⟨v,rfl,y,H,D⟩;have a:=jA (jd y (jd H D));clear y H D m;go_wp2_with fail;refine(n.out _ a.out.2.1).mono ?_;rintro e Y ⟨rfl,I,E⟩;have Q:=jA (jd I E);clear I E n;go_wp2_with fail;go_ret;obtain⟨T,u⟩:=F.out;obtain⟨L,U,M⟩:=a.out;obtain⟨N,f⟩:=Q.out;have R:=u.size;have S:=f.size;exact⟨v,rfl,(o.out.law _).wide _ _ _ _ _ _ (o.out.keep L (by omega) (aj _) f) R S,N,(u.trans M).trans f⟩
end
end
namespace Hx
open Go.RowKit
def WL(E F G:tk):Kids:=λw lo hi us=>∃m k u v z,us=[u,v,z]/\lo<=m/\m<=k/\k<=hi/\E w lo m u/\F w m k v/\G w k hi z
theorem Ov{E F G:tk}(h:Lawful E)(k:Lawful F)(g:Lawful G):zh (WL E F G):=
 ⟨λ_ _ _ _ _ ⟨m,n,u,v,z,e,q,f,t,j,l,o⟩ i=>⟨m,n,u,v,z,e,q,f,t,h.loc _ _ _ _ _ j (λb a c=>i b a (by omega)),k.loc _ _ _ _ _ l (λb a c=>i b (by omega) (by omega)),g.loc _ _ _ _ _ o (λb a c=>i b (by omega) c)⟩,
  λ_ _ _ _ _ _ ⟨m,n,u,v,z,e,q,f,t,j,l,o⟩ y A=>⟨m,n,u,v,z,e,by omega,f,by omega,h.wide _ _ _ _ _ _ j y (aj _),l,g.wide _ _ _ _ _ _ o (aj _) A⟩⟩
end Hx
section
open Go.RowKit Hx
section
def o7(T:jo):Prop:=T∈[331,321,327,333,336,339,349]
theorem o7.sH{T:jo}(h:o7 T)(A:Nat)(w:jk):(method 576 T (Pt A 0) "helm/lang.price").run prog w=.ok (244,Pt A 0) w:=by
 simp only[o7,dh,dU,or_false]at h;rcases h with rfl|rfl|rfl|rfl|rfl|rfl|rfl<;>kernel_rfl
structure oI(e:jI):Prop where
 law:Lawful e.here
 head:∀w lo hi v,e.here w lo hi v->∃T b,v=.iface T (Pt b 0)/\o7 T/\lo<=b/\b<hi/\w.cell? (Ad b 1)=some (Im e.jw)
 jw:0<=e.jw/\e.jw<=1000001
def yS(T' T:jo)(at' jw:Int)(K:Hx.Kids)(mk:List jm->List jm)(ds:Ds:={}):jI:=
 ⟨jw,λw lo hi v=>∃b us,v=.iface T' (Pt b 0)/\lo<=b/\b<hi/\K w lo b us/\w.heap[b]? =some (.cells (Im at'::Im jw::mk us).toArray T),ds⟩
theorem uO{T' T:jo}{at' jw:Int}{K:Hx.Kids}{mk:List jm->List jm}{ds:Ds}(o:o7 T')(i:zh K)(q:0<=jw/\jw<=1000001):oI (yS T' T at' jw K mk ds):=by
 refine⟨⟨?_,?_⟩,?_,q⟩
 .rintro w B l j v ⟨b,h,f,a,c,g,e⟩ k;exact⟨b,h,f,a,c,i.loc _ _ _ _ _ g (λm n z=>k m n (by omega)),(k b a c).trans e⟩
 .rintro w l j y t v ⟨b,h,f,a,c,g,e⟩ u A;exact⟨b,h,f,by omega,by omega,i.wide _ _ _ _ _ _ g u (aj _),e⟩
 .rintro w l j v ⟨b,h,f,a,c,g,e⟩;exact⟨T',b,f,o,a,c,jG e⟩
theorem KY{T' T:jo}{at' jw:Int}{K:Hx.Kids}{mk:List jm->List jm}{ds:Ds}(f:zh K){w:jk}{lo:Nat}{c:List jm}(h:K w lo w.heap.size c)(a:lo<=w.heap.size){o:Obj}
 (g:o=.cells (Im at'::Im jw::mk c).toArray T):(yS T' T at' jw K mk ds).here (w.alloc o) lo (w.alloc o).heap.size (.iface T' (Pt w.heap.size 0)):=by
 subst g;exact⟨w.heap.size,c,rfl,a,by rw[oz];omega,f.loc _ _ _ _ _ h (λb _ e=>fP _ _ _ e),aY _ _⟩
def mY(l:List jI):tk:=aei 192 l
def sumOf(l:List jI):Int:=l.foldl (λa e=>kZ [a,e.jw]) 0
theorem ahO:∀(l:List jI)(a:Int),(∀e∈l,oI e)->0<=a/\a<=1000001->0<=l.foldl (λa e=>kZ [a,e.jw]) a/\l.foldl (λa e=>kZ [a,e.jw]) a<=1000001
 |[],_,_,h=>h
 |e::l,a,hl,h=>ahO l _ (λx b=>hl x (aI _ b)) (xZ _ (by have:=(hl e (aW ..)).jw;simp;omega))
theorem rP{l:List jI}(a:∀e∈l,oI e):0<=sumOf l/\sumOf l<=1000001:=ahO l 0 a (by omega)
def qK(l:List jI)(c:Ck):Ck:=(l.foldl (λc s=>s.does.look c) c).cut c.jy.length
def kW(l:List jI)(c:Co):Co:=((l.foldl (λc s=>s.does.lay c) c).cut c.jy.length).kC c.free
def Hx.jI.uJ(s:jI):jI:={s with does:={lay:=s.does.fs.lay,fs:=s.does.fs}}
def kS:List jI->List jI
 |[]=>[]
 |s::l=>if s.does.fs.idle then kS l else if s.does.fs.ends then [s.uJ]else s.uJ::kS l
def uM(l:List jI):Bool:=match l.getLast? with
 |some s=>s.does.fs.ends
 |none=>false
def RI(b:Wd)(e:Ex):Ds:=
 ⟨λc=>(e.does.look (c.nD b.text b.at')).add b.text (e.does.jZ (c.nD b.text b.at').jy) true,
  λc=>
   let r:=e.does.give c (-1)
   ((if r.2=c.free then r.1 else r.1.lay 7 [c.free,r.2]).kC (wrap64 (c.free+1))).know b.text c.free,
  {lay:=λc=>
    let r:=e.does.fd.give c (-1)
    ((if r.2=c.free then r.1 else r.1.lay 7 [c.free,r.2]).kC (wrap64 (c.free+1))).know b.text c.free}⟩
def ag7(b:Wd)(e:Ex):Ds:=
 ⟨λc=>
   let c1:=if (lJ c.jy b.text).isVar then c else c.fail 2 b.at'
   (e.does.look c1).want (e.does.jZ c1.jy) e.at' (lJ c.jy b.text).kind,
  λc=>c.store (c.wK b.text) e.does,{lay:=λc=>c.store (c.wK b.text) e.does.fd.dn}⟩
def ahE(i:Int)(e:Ex):Ds:=⟨λc=>(e.does.look c).want (e.does.jZ c.jy) e.at' 1,λc=>c.store i e.does,{lay:=λc=>c.store i e.does.fd.dn}⟩
def XK(e f:Ex):Ds:=
 ⟨λc=>
   let c1:=(e.does.look c).want (e.does.jZ c.jy) e.at' 3
   (f.does.look c1).want (f.does.jZ c1.jy) f.at' 4,
  λc=>
   let r:=e.does.give c (-1)
   let q:=f.does.give r.1 (-1)
   (q.1.lay 36 [r.2,q.2]).kC c.free,
  {lay:=λc=>
    let r:=e.does.fd.give c (-1)
    let q:=f.does.fd.give r.1 (-1)
    (q.1.lay 36 [r.2,q.2]).kC c.free}⟩
def asl:Ds:=⟨λc=>c,λc=>c.lay 1 [],{lay:=λc=>c.lay 1 [],ends:=true}⟩
def Aa(e:Ex)(y n:List jI):Ds:=
 ⟨λc=>qK n (qK y ((e.does.look c).want (e.does.jZ c.jy) e.at' 2)),
  λc=>
   let r:=e.does.give c (-1)
   let c1:=kW y ((r.1.kC c.free).lay 2 [r.2])
   (if 0<n.length then kW n (c1.lay 3 [])else c1).lay 0 [],
  if e.does.fd.known then
     let l:=if e.does.fd.val=0 then kS n else kS y
     {lay:=kW l,idle:=decide (l.length=0),ends:=uM l}
   else
    {lay:=λc=>
      let r:=e.does.fd.give c (-1)
      let c1:=kW (kS y) ((r.1.kC c.free).lay 2 [r.2])
      (if 0<(kS n).length then kW (kS n) (c1.lay 3 [])else c1).lay 0 []
     idle:=decide ((kS y).length=0)&&decide ((kS n).length=0)
     ends:=uM (kS y)&&uM (kS n)}⟩
def OD(b:Wd)(x:Sx)(l:List jI):Ds:=
 ⟨λc=>
   let c1:=oG x.of x.jE (c.nD b.text b.at')
   (qK l (c1.add b.text x.of false)).cut c1.jy.length,
  λc=>
   let f:=c.nk (jO x.base) x.jE
   (((kW l ((f.1.lay 4 [jO x.base,f.2,f.2]).know b.text f.2)).lay 0 []).cut c.jy.length).kC c.free,
  {lay:=λc=>
    let f:=c.nk (jO x.base) x.fold
    (((kW (kS l) ((f.1.lay 4 [jO x.base,f.2,f.2]).know b.text f.2)).lay 0 []).cut c.jy.length).kC c.free
   idle:=decide ((kS l).length=0)}⟩
def sF(at':Int)(b:Wd)(e:Ex):jI:=yS 331 332 at' (jS [e.jw]) (oD (e.here e.at')) (λus=>.string b.text::Im b.at'::us) (RI b e)
def sV(b:Wd)(e:Ex):jI:=yS 321 326 b.at' (jS [e.jw]) (oD (e.here e.at')) (λus=>.string b.text::Im b.at'::us) (ag7 b e)
def uQ(at' i:Int)(e:Ex):jI:=yS 327 329 at' (jS [e.jw]) (oD (e.here e.at')) (λus=>Im i::us) (ahE i e)
def sQ(at':Int)(e f:Ex):jI:=yS 333 335 at' (jS [e.jw,f.jw]) (yC (e.here e.at') (f.here f.at')) (λus=>us) (XK e f)
def yV(at':Int):jI:=yS 336 338 at' 1 zH (λ_=>[]) asl
def qo(at':Int)(e:Ex)(y n:List jI):jI:=yS 339 341 at' (jS [e.jw,sumOf y,sumOf n]) (WL (e.here e.at') (mY y) (mY n)) (λus=>us++[.bool false]) (Aa e y n)
def qQ(at':Int)(b:Wd)(x:Sx)(l:List jI):jI:=yS 349 351 at' (jS [x.jw,x.round (sumOf l)]) (yC (oZ x) (mY l)) (λus=>.string b.text::Im b.at'::us) (OD b x l)
namespace Hx
section
variable (s:ji)(ex:Ps->Ex×Ps)(jM:Ps->List jI×Ps)(st:Ps->Option jI×Ps)
def Eb(p:Ps):jI×Ps:=
 let d:=(p.next s).name s
 (sF p.k.at' d.1 (qO s ex d.2).1,(qO s ex d.2).2)
def Lu(p:Ps):jI×Ps:=(sV (p.name s).1 (qO s ex (p.name s).2).1,(qO s ex (p.name s).2).2)
def LH(p:Ps):jI×Ps:=(uQ p.k.at' ((p.k.text.data.toList.getD 1 0).toNat-48) (qO s ex (p.next s)).1,(qO s ex (p.next s)).2)
def Ll(ex':Ps->Ex×Ps)(p:Ps):jI×Ps:=
 let a:=ex' ((p.next s).ku s [40])
 let b:=ex' (a.2.expect s [44])
 (sQ p.k.at' a.1 b.1,(b.2.close s [41]).expect s [59])
def Lm(p:Ps):jI×Ps:=(yV p.k.at',(p.next s).expect s [59])
def CG(p:Ps):jI×Ps:=
 let c:=ex (p.next s)
 let y:=jM c.2
 if y.2.is [101,108,115,101]then (qo p.k.at' c.1 y.1 (jM (y.2.next s)).1,(jM (y.2.next s)).2)else (qo p.k.at' c.1 y.1 [],y.2)
def CY(ex':Ps->Ex×Ps)(n:Nat)(p:Ps):jI×Ps:=
 let d:=(p.next s).name s
 let x:=nB s ex' n (d.2.expect s [105,110])
 let b:=jM (if x.1.2 then x.2.fail else x.2)
 (qQ p.k.at' d.1 x.1.1 b.1,b.2)
def o8(ex':Ps->Ex×Ps)(n:Nat)(p:Ps):Option jI×Ps:=
 if p.k.kind=2 then (some (Lu s ex p).1,(Lu s ex p).2)
 else if p.k.kind=4 then (some (LH s ex p).1,(LH s ex p).2)
 else if p.is [118,97,114]then (some (Eb s ex p).1,(Eb s ex p).2)
 else if p.is [112,117,115,104]then (some (Ll s ex' p).1,(Ll s ex' p).2)
 else if p.is [114,101,116,117,114,110]then (some (Lm s p).1,(Lm s p).2)
 else if p.is [105,102]then (some (CG s ex jM p).1,(CG s ex jM p).2)
 else if p.is [101,97,99,104]then (some (CY s jM ex' n p).1,(CY s jM ex' n p).2)
 else (none,p)
def qg:Nat->List jI->Ps->List jI×Ps
 |0,l,p=>(l,p)
 |n+1,l,p=>match st p with
  |(some e,q)=>qg n (l++[e]) q
  |(none,q)=>(l,q)
def qj(tH:Ps->List jI×Ps)(p:Ps):List jI×Ps:=((tH (p.ku s [123])).1,(tH (p.ku s [123])).2.close s [125])
end
def mV(s:ji):Nat->Ps->List jI×Ps
 |0,p=>([],p)
 |d+1,p=>qg (o8 s (lG s (d+1)) (qj s (mV s d)) (lG s d) (s.size+1)) (s.size+1) [] p
end Hx
end
section
variable {s:ji}{ex ex':Ps->Ex×Ps}{jM:Ps->List jI×Ps}{d:Nat}{p:Ps}
def Ez(s:ji)(jM:Ps->List jI×Ps)(d:Nat):Prop:=∀p,p.Ok s->Deep d p->mW s p (jM p).2/\∀e∈(jM p).1,oI e
structure Gu(s:ji)(p:Ps)(r:jI×Ps):Prop where
 goes:mW s p r.2
 Bd:oI r.1
 more:p.k.at'+1<=r.2.k.at'
theorem uN{l:List jI}(h:∀e∈l,oI e):Lawful (mY l):=Rz λb a=>(h b a).law
theorem H7(a:p.Ok s)(b:1<=p.k.text.size){q:Ps}(h:mW s (p.next s) q):p.k.at'+1<=q.k.at':=by
 have:=Ho a;have:=h.mono;omega
theorem aph(h:qI s ex (d+1))(g:p.Ok s)(i:Deep (d+1) p)(f:p.is [118,97,114]=true):Gu s p (Eb s ex p):=by
 have b:=oC g (oW (by simp) f);have a:=EZ b.ok;obtain⟨e,c⟩:=J7 h a.ok (i.good (b.trans a));exact⟨(b.trans a).trans e,uO (by simp[o7]) (qW (c.law _)) (qx c.jw),H7 g (qP (by simp) f) (a.trans e)⟩
theorem atp(h:qI s ex (d+1))(e:p.Ok s)(i:Deep (d+1) p)(c:p.k.kind=2):Gu s p (Lu s ex p):=by
 have a:(p.name s).2=p.next s:=by unfold Hx.Ps.name;rw[jh c]
 have b:=oC e (Jg (by rw[c];decide));obtain⟨g,f⟩:=J7 h b.ok (i.good b);refine⟨?_,?_,?_⟩
 .show mW s p (qO s ex (p.name s).2).2;rw[a];exact b.trans g
 .show oI (sV _ (qO s ex (p.name s).2).1);rw[a];exact uO (by simp[o7]) (qW (f.law _)) (qx f.jw)
 .show p.k.at'+1<=(qO s ex (p.name s).2).2.k.at';rw[a];exact H7 e (e.kinds.name c) g
theorem auI(h:qI s ex (d+1))(b:p.Ok s)(g:Deep (d+1) p)(f:p.k.kind=4):Gu s p (LH s ex p):=by
 have a:=oC b (Jg (by rw[f];decide));obtain⟨e,c⟩:=J7 h a.ok (g.good a);refine⟨a.trans e,uO (by simp[o7]) (qW (c.law _)) (qx c.jw),H7 b ?_ e⟩;obtain⟨x,i,_⟩:=b.kinds.register f;exact LQ (by simp) i
theorem arC(h:qI s ex' d)(l:p.Ok s)(n:Deep (d+1) p)(k:p.is [112,117,115,104]=true):Gu s p (Ll s ex' p):=by
 have a:=oC l (oW (by simp) k);have e:=(n.good a).ku a.ok (t:=[40]) (by simp);obtain⟨b,f⟩:=h _ (a.ok.ku [40]) e;have c:=yN b.ok (t:=[44]) (by simp);obtain⟨m,g⟩:=h _ c.ok (e.good (b.trans c));have i:=J9 a.ok (t:=[40]) (u:=[41]) (by simp) (by simp) ((b.trans c).trans m);have j:=i.trans (yN i.ok (t:=[59]) (by simp));exact⟨a.trans j,uO (by simp[o7]) (wU (f.law _) (g.law _)) (rO f.jw g.jw),H7 l (qP (by simp) k) j⟩
theorem asu(e:p.Ok s)(c:p.is [114,101,116,117,114,110]=true):Gu s p (Lm s p):=by
 have a:=oC e (oW (by simp) c);have b:=yN a.ok (t:=[59]) (by simp);exact⟨a.trans b,uO (by simp[o7]) C9 (by omega),H7 e (qP (by simp) c) b⟩
theorem Jj{a b c:Int}(h:0<=a/\a<=1000001)(k:0<=b/\b<=1000001)(l:0<=c/\c<=1000001):0<=jS [a,b,c]/\jS [a,b,c]<=1000001:=XE _ (by simp;exact⟨h,k,l⟩)
theorem akV(h:qI s ex (d+1))(t:Ez s jM (d+1))(n:p.Ok s)(k:Deep (d+1) p)(m:p.is [105,102]=true):Gu s p (CG s ex jM p):=by
 have j:=oC n (oW (by simp) m);obtain⟨e,b⟩:=h _ j.ok (k.good j);have a:=j.trans e;obtain⟨f,c⟩:=t _ e.ok (k.good a);have i:=a.trans f;unfold CG;simp only;split
 .rename_i l;have g:=oC f.ok (oW (by simp) l);obtain⟨q,o⟩:=t _ g.ok (k.good (i.trans g));exact⟨(i.trans g).trans q,uO (by simp[o7]) (Ov (b.law _) (uN c) (uN o)) (Jj b.jw (rP c) (rP o)),H7 n (qP (by simp) m) ((e.trans f).trans (g.trans q))⟩
 .exact⟨i,uO (by simp[o7]) (Ov (b.law _) (uN c) (uN (by simp))) (Jj b.jw (rP c) (rP (by simp))),H7 n (qP (by simp) m) (e.trans f)⟩
theorem ao4(n:Nat)(h:qI s ex' d)(q:Ez s jM (d+1))(o:p.Ok s)(l:Deep (d+1) p)(m:p.is [101,97,99,104]=true):Gu s p (CY s jM ex' n p):=by
 have j:=oC o (oW (by simp) m);have e:=EZ j.ok;have f:=yN e.ok (t:=[105,110]) (by simp);have c:=(j.trans e).trans f;obtain⟨a,g⟩:=SY h n f.ok (l.good c);have b:mW s (nB s ex' n (((p.next s).name s).2.expect s [105,110])).2 (if (nB s ex' n (((p.next s).name s).2.expect s [105,110])).1.2 then (nB s ex' n (((p.next s).name s).2.expect s [105,110])).2.fail else (nB s ex' n (((p.next s).name s).2.expect s [105,110])).2):=by
  split
  .exact EY a.ok
  .exact mW.refl a.ok
 obtain⟨k,i⟩:=q _ b.ok (l.good ((c.trans a).trans b));exact⟨((c.trans a).trans b).trans k,uO (by simp[o7]) (wU g.law (uN i)) (rO g.jw (tC (rP i))),H7 o (qP (by simp) m) ((((e.trans f).trans a).trans b).trans k)⟩
def PX(s:ji)(st:Ps->Option jI×Ps)(d:Nat):Prop:=∀p,p.Ok s->Deep d p->(∃e q,st p=(some e,q)/\Gu s p (e,q))\/st p=(none,p)
theorem ahw(n:Nat)(h:qI s ex (d+1))(e:qI s ex' d)(f:Ez s jM (d+1)):PX s (o8 s ex jM ex' n) (d+1):=by
 intro p b c;unfold o8;split
 .rename_i a;exact jf ⟨_,_,rfl,atp h b c a⟩
 split
 .rename_i a;exact jf ⟨_,_,rfl,auI h b c a⟩
 split
 .rename_i a;exact jf ⟨_,_,rfl,aph h b c a⟩
 split
 .rename_i a;exact jf ⟨_,_,rfl,arC e b c a⟩
 split
 .rename_i a;exact jf ⟨_,_,rfl,asu b a⟩
 split
 .rename_i a;exact jf ⟨_,_,rfl,akV h f b c a⟩
 split
 .rename_i a;exact jf ⟨_,_,rfl,ao4 n e f b c a⟩
 .exact je rfl
theorem ahn{st:Ps->Option jI×Ps}(h:PX s st d):∀(n:Nat)(l:List jI)(p:Ps),(∀e∈l,oI e)->p.Ok s->Deep d p->mW s p (qg st n l p).2/\∀e∈(qg st n l p).1,oI e
 |0,l,p,hl,ok,_=>⟨mW.refl ok,hl⟩
 |n+1,l,p,hl,ok,hd=>by
  unfold qg;rcases h p ok hd with⟨e,q,c,b⟩|c
  .rw[c];obtain⟨g,f⟩:=ahn h n (l++[e]) q (λx a=>by
    rcases List.mem_append.1 a with a|a
    .exact hl x a
    .rw[cO.1 a];exact b.Bd) b.goes.ok (hd.good b.goes)
   exact⟨b.goes.trans g,f⟩
  .rw[c];exact⟨mW.refl ok,hl⟩
theorem aby{b:Ps->List jI×Ps}(h:Ez s b d):Ez s (qj s b) (d+1):=by
 intro p a f;obtain⟨c,e⟩:=h _ (a.ku [123]) (f.ku a (by simp));exact⟨J9 a (by simp) (by simp) c,e⟩
theorem Tz(s:ji):∀(d:Nat),Ez s (mV s d) d
 |0=>λ_ a _=>⟨mW.refl a,by simp[mV]⟩
 |d+1=>λp a b=>ahn (ahw (s.size+1) (IG s (d+1)) (IG s d) (aby (Tz s d))) (s.size+1) [] p (by simp) a b
end
end
end Go.Proofs.YthllhabjfchgiaaGreatDoor
