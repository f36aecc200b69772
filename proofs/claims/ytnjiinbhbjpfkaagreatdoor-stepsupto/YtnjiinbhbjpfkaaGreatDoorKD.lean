import Derived.Test.YtnjiinbhbjpfkaaGreatDoorKA
import Derived.Defers
import Derived.Laws.LoneSync
set_option maxRecDepth 100000
set_option maxHeartbeats 0
set_option linter.all false
namespace Go.Proofs.YtnjiinbhbjpfkaaGreatDoor
open Go.RowKit Go.Proofs.Tryz
section
abbrev se:=Nat×Nat×Int
def kE(ev:List se):List Value:=ev.flatMap (λx=>[.int .i64 (x.1:Int),.int .i64 (x.2.1:Int),.int .i64 x.2.2])
theorem Fm(a b:List se):kE (a++b)=kE a++kE b:=by simp[kE]
end
namespace B
def EF(L:List V):Nat->V:=λi=>L.getD i (0,0)
def mD(L:List V)(M:Nat->List V):St:=(0,EF L,M)
def jX(kd:Kd)(n:Nat)(L:List V)(M:Nat->List V):Prop:=iZ kd L.length n (mD L M)
def lS(L:List V)(M:Nat->List V)(p:Nat):Prop:=Reach L.length (mD L M) p
theorem nZ{L:List V}{i:Nat}(h:i<L.length):EF L i∈L:=by
 unfold EF;rw[List.getD_eq_getElem?_getD,List.getElem?_eq_getElem h];exact List.getElem_mem h
theorem zQ{L:List V}{v:V}(h:v∈L):∃i,i<L.length/\EF L i=v:=by
 obtain⟨i,hi,e⟩:=List.getElem_of_mem h;refine⟨i,hi,?_⟩;unfold EF;rw[List.getD_eq_getElem?_getD,List.getElem?_eq_getElem hi,<-e];rfl
theorem nH{L:List V}{M:Nat->List V}{v:V}(h:v∈L)(e:v.1≠0):lS L M v.1:=by
 obtain⟨i,hi,rfl⟩:=zQ h;exact jj (s:=mD L M) i hi e
theorem kA{L:List V}{M:Nat->List V}{k:Nat}(i:lS L M k){v:V}(o:v∈M k)(e:v.1≠0):lS L M v.1:=iF (s:=mD L M) i o e
def oH(L:List V)(M:Nat->List V)(v:V):Prop:=v.1=0\/v∈L\/∃p,lS L M p/\v∈M p
section
variable {kd : Kd} {n : Nat} {L L' : List V} {M : Nat → List V} {v : V}
theorem oH.mem(h:v∈L):oH L M v:=Or.inr (Or.inl h)
theorem oH.vi(h:oH L M v)(e:v.1≠0):lS L M v.1:=by
 rcases h with h|h|⟨p,i,h⟩
 .exact absurd h e
 .exact nH h e
 exact kA i h e
theorem oH.Ay(h:oH L M v)(e:jX kd n L M):qO kd.on n v:=by
 rcases h with h|h|⟨p,o,h⟩
 .exact Or.inl h
 .obtain⟨i,hi,rfl⟩:=zQ h;exact e.h1 i hi
 exact e.h2 p o v h
theorem sI(h:∀v,v∈L'->oH L M v){p:Nat}(u:lS L' M p):lS L M p:=
 u (lS L M) (λ_ hi e=>(h _ (nZ hi)).vi e) (λ_ i _ o e=>kA i o e)
theorem Bf(e:jX kd n L M)(h:∀v,v∈L'->oH L M v):jX kd n L' M:=
 Dv (s:=mD L M) (s':=mD L' M) e rfl (λ_ i=>sI h i) (λ_ hi=>(h _ (nZ hi)).Ay e)
theorem Bg(o:jX kd n L M){p:Nat}(i:Nat)(u:lS L M p)(e:oH L M v):jX (told kd ((M p).getD i (0,0))) n L (lay M p ((M p).set i v)):=
 Dw (s:=mD L M) o 0 p i v u (e.Ay o) e.vi
theorem CE{p i:Nat}(u:lS L M p)(o:oH L M v){k:Nat}(e:lS L (lay M p ((M p).set i v)) k):lS L M k:=
 pZ (s:=mD L M) (x:=0) u o.vi e
theorem po(e:jX kd n L M){p:Nat}(i:lS L M p):kd.on p=true/\1<=p/\p<=n:=kJ (s:=mD L M) e i
theorem sJ{p:Nat}{l:List V}(W:∀v,v∈l->oH L M v)(J:∀v,v∈L'->v=(p,0)\/oH L M v){k:Nat}(G:lS L' (lay M p l) k):k=p\/lS L M k:=by
 refine G (λk=>k=p\/lS L M k) (λi hi y=>?_) (λk G u H y=>?_)
 .rcases J _ (nZ hi) with h|h
  .left
   show(EF L' i).1=p;rw[h]
  exact Or.inr (h.vi y)
 have o:u∈lay M p l k:=H;by_cases e:k=p
 .subst e;rw[gl]at o;exact Or.inr ((W u o).vi y)
 rw[fq _ _ _ _ e]at o;exact Or.inr (kA (G.resolve_left e) o y)
theorem Bh(Y:jX kd n L M){p:Nat}{l:List V}(h1:1<=p)(h2:p<=n)(h3:kd.on p=false)(hl:∀v,v∈l->oH L M v)(hL:∀v,v∈L'->v=(p,0)\/oH L M v):jX (laid kd p) n L' (lay M p l):=by
 refine⟨λi hi=>?_,λk o u H=>?_,λc hc=>?_⟩
 .show qO (mark kd.on p) n (EF L' i);rcases hL _ (nZ hi) with h|h
  .rw[h];exact Or.inr ⟨h1,h2,je _ _,rfl⟩
  exact(h.Ay Y).up (λk=>jy p)
 .have y:u∈lay M p l k:=H;show qO (mark kd.on p) n u;by_cases e:k=p
  .subst e;rw[gl]at y;exact((hl u y).Ay Y).up (λj=>jy k)
  rw[fq _ _ _ _ e]at y;rcases sJ hl hL o with h|h
  .exact absurd h e
  exact(Y.h2 k h u y).up (λj=>jy p)
 have W:kd.cy.map (λc:Cy=>(⟨mark c.m p,c.st,c.nx⟩:Cy))=some c:=hc;rw[Option.map_eq_some_iff]at W;obtain⟨c0,a6,rfl⟩:=W;obtain⟨hx,T,hT,G⟩:=Y.h3 c0 a6;have G:lR kd.on n M c0 T:=G;have hn:∀k,T k->k≠p:=by
  rintro k o rfl;have:=(G.ha k o).2.2;rw[h3]at this;cases this
 refine⟨hx,λk=>k=p\/T k,λk o=>(sJ hl hL o).imp id (hT k),λk o=>?_,λk o u H=>?_,λk o=>?_,λk o=>jy _ (G.hd k o),G.he,λk o=>?_,G.hg,G.hh,λk a1 a2 a3=>?_⟩
 .rcases o with rfl|o
  .exact⟨h1,h2,je _ _⟩
  have:=G.ha k o;exact⟨this.1,this.2.1,jy _ this.2.2⟩
 .have y:u∈lay M p l k:=H;rcases o with rfl|o
  .rw[gl]at y;exact⟨((hl u y).Ay Y).up (λj=>jy k),λJ=>Or.inr (hT _ ((hl u y).vi J))⟩
  rw[fq _ _ _ _ (hn k o)]at y;have:=G.hb k o u y;exact⟨this.1.up (λk=>jy p),λJ=>Or.inr (this.2 J)⟩
 .by_cases e:k=p
  .exact Or.inl e
  have a5:mark c0.m p k=true:=o;rw[fg _ _ _ e]at a5;exact Or.inr (G.hc k a5)
 .intro S s1 s2 _ s4;have a7:∀k,k∈c0.st->∀v,v∈lay M p l k->v.1≠0->S v.1:=s2;have a8:∀k,mark c0.m p k=false->S k->∀v,v∈lay M p l k->v.1≠0->S v.1:=s4;rcases o with rfl|o
  .exact s1 k (je _ _)
  refine(G.hf k o (λk=>S k/\T k) (λk o=>⟨s1 k (jy _ o),G.hc k o⟩) (λk o u H J=>?_) (λv hv=>by simp at hv) (λk hm o u H J=>?_)).1
  .have a4:=G.hc k (G.hd k o);exact⟨a7 k o u (by rw[fq _ _ _ _ (hn k a4)];exact H) J,(G.hb k a4 u H).2 J⟩
  have Z:=hn k o.2;exact⟨a8 k (by rw[fg _ _ _ Z];exact hm) o.1 u (by rw[fq _ _ _ _ Z];exact H) J,(G.hb k o.2 u H).2 J⟩
 by_cases e:k=p
 .subst e;exact je _ _
 have a0:mark kd.on p k=true:=a3;rw[fg _ _ _ e]at a0;exact jy _ (G.hi k a1 a2 a0)
end
end B
namespace M
def nx(s:ByteArray)(hi:Nat)(q:Nat)(bad:Bool):Nat×Bool:=
 if bad=true then(q,true) else if tk s q 0 hi=true then(q+1,false) else(q,true)
def BM(r f k:Nat):Nat:=if k=114 then r-1 else if k=102 then f-1 else if k=115 then 8 else if k=45 then 0 else 255
def tb(s:ByteArray)(l q:Nat):Bool:=decide (q+1<s.size/\l<256*bt s q+bt s (q+1))
def qK(s:ByteArray)(r f l m i k q:Nat)(bad:Bool):Nat×Bool:=
 nx s (BM r f k) q (bad || (decide (i=2/\m=116) && tb s l q))
def ud(s:ByteArray)(r f l m:Nat):List Nat->Nat->Nat×Bool->Nat×Bool
 | [],_,st=>st
 | k :: ks,i,st=>ud s r f l m ks (i+1) (qK s r f l m i k st.1 st.2)
theorem CT(s:ByteArray)(hi q:Nat):nx s hi q true=(q,true):=by simp[nx]
theorem xl{s:ByteArray}{hi q:Nat}{bad:Bool}(h:q<=s.size):q<=(nx s hi q bad).1/\(nx s hi q bad).1<=s.size:=by
 unfold nx;split
 .exact⟨Nat.le_refl _,h⟩
 split
 .rename_i e;have:=fK e;simp;omega
 exact⟨Nat.le_refl _,h⟩
theorem Ao(s:ByteArray)(r f l m i k q:Nat):qK s r f l m i k q true=(q,true):=by simp[qK,CT]
theorem DU(s:ByteArray)(r f l m:Nat)(e:List Nat):∀i q,ud s r f l m e i (q,true)=(q,true):=by
 induction e with
 | nil=>intro i q;rfl
 | cons k e o=>intro i q;unfold ud;simp only[Ao];exact o _ _
theorem EY:∀e,e<23->(k1 e=116->k2 e=116)/\(k0 e=114\/k0 e=102\/k0 e=115\/k0 e=107\/k0 e=45)/\(k1 e≠116->(k1 e=114\/k1 e=102\/k1 e=115\/k1 e=107\/k1 e=45)/\(k2 e=114\/k2 e=102\/k2 e=115\/k2 e=107\/k2 e=45)):=by decide
theorem yQ(r f k:Nat)(h:k=114\/k=102\/k=115\/k=107\/k=45):BM r f k=iQ r f k:=by
 rcases h with rfl|rfl|rfl|rfl|rfl<;>rfl
theorem xF(r f:Nat):BM r f 116=255:=rfl
theorem sn(s:ByteArray)(q:Nat):tk s q 0 255=decide (q<s.size):=by
 have:=my s q;unfold tk;congr 1
 apply propext
 constructor
 .intro h;exact h.1
 intro h;exact⟨h,by omega,by omega⟩
theorem DT(s:ByteArray)(p op r f l:Nat)(h:op<23): ud s r f l (k1 op) (kd.getD op []) 1 (p,false)=((rz s p op r f l).1,!(rz s p op r f l).2):=by
 obtain⟨h1,h2,h3⟩:=tg op h;obtain⟨m1,m2,m3⟩:=EY op h;rw[h1];simp only[ud];unfold rz;have Y:qK s r f l (k1 op) 1 (k0 op) p false=nx s (iQ r f (k0 op)) p false:=by
  unfold qK;rw[yQ _ _ _ m2];simp
 by_cases o:tk s p 0 (iQ r f (k0 op))=true
 .have p1:=(fK o).1;have i:qK s r f l (k1 op) 1 (k0 op) p false=(p+1,false):=by rw[Y];simp[nx,o]
  rw[if_pos o,i];by_cases ht:k1 op=116
  .rw[if_pos ht];have W:qK s r f l (k1 op) (1+1) (k1 op) (p+1) false=nx s 255 (p+1) (tb s l (p+1)):=by
    unfold qK;rw[ht,xF];simp
   have y:∀q bad,qK s r f l (k1 op) (1+1+1) (k2 op) q bad=nx s 255 q bad:=by
    intro q bad;unfold qK;rw[m1 ht,xF];simp
   simp only[W,y];unfold uQ;by_cases c1:s.size<p+1+2
   .rw[if_pos c1];have e:tb s l (p+1)=false:=by unfold tb;simp;omega
    rw[e];by_cases H:p+1<s.size
    .have:s.size=p+2:=by omega
     simp[nx,sn,this]
    have:s.size=p+1:=by omega
    simp[nx,sn,this]
   rw[if_neg c1];by_cases H:l<256*bt s (p+1)+bt s (p+1+1)
   .have J:tb s l (p+1)=true:=by unfold tb;simp;omega
    rw[if_pos H,J];simp[nx]
   have e:tb s l (p+1)=false:=by unfold tb;simp;omega
   rw[if_neg H,e];have d1:p+1<s.size:=by omega
   have d2:p+1+1<s.size:=by omega
   simp[nx,sn,d1,d2]
  obtain⟨m4,m5⟩:=m3 ht;rw[if_neg ht];have W:qK s r f l (k1 op) (1+1) (k1 op) (p+1) false=nx s (iQ r f (k1 op)) (p+1) false:=by
   unfold qK;rw[yQ _ _ _ m4];simp[ht]
  have y:∀q bad,qK s r f l (k1 op) (1+1+1) (k2 op) q bad=nx s (iQ r f (k2 op)) q bad:=by
   intro q bad;unfold qK;rw[yQ _ _ _ m5];simp
  simp only[W,y];by_cases G:tk s (p+1) 0 (iQ r f (k1 op))=true
  .by_cases Z:tk s (p+1+1) 0 (iQ r f (k2 op))=true
   .simp[nx,G,Z]
   simp[nx,G,Z]
  simp[nx,G]
 have i:qK s r f l (k1 op) 1 (k0 op) p false=(p,true):=by rw[Y];simp[nx,o]
 rw[if_neg o,i];simp[Ao]
end M
section
theorem disable(w:World):(callFunc 122 #[]).run prog w=.ok (.value (.tuple #[])) w:=run_call_mark0 func122 (by kernel_rfl) (by kernel_rfl) (by kernel_rfl) .disable (by kernel_rfl) w
theorem enable(w:World):(callFunc 124 #[]).run prog w=.ok (.value (.tuple #[])) w:=run_call_mark0 func124 (by kernel_rfl) (by kernel_rfl) (by kernel_rfl) .enable (by kernel_rfl) w
theorem acquire(a:Addr)(w:World):(callFunc 125 #[.pointer (some a)]).run prog w=.ok (.value (.tuple #[])) w:=run_call_marked func125 (by kernel_rfl) (by kernel_rfl) (by kernel_rfl) .acquire (by kernel_rfl) a w
theorem releaseMerge(a:Addr)(w:World):(callFunc 127 #[.pointer (some a)]).run prog w=.ok (.value (.tuple #[])) w:=run_call_marked func127 (by kernel_rfl) (by kernel_rfl) (by kernel_rfl) .releaseMerge (by kernel_rfl) a w
theorem ja(a:Addr)(u:FrameMode)(w:World)(i:w.cell? a=some (.int .i32 1))(hz:w.frozen? a=false): CallsD prog 40 #[.pointer (some a)] u w λe H w'=>H=u/\(e=.returned (.tuple #[])/\w'=w.setCell a (.int .i32 0)):=by
 have J:=disable;have he:=enable;have W:=releaseMerge;have G:=run_convert_to_unsafe (P:=prog) (src:=210) (dst:=214) underlying210 underlying214 (by kernel_rfl) i;have o:=run_call_add (P:=prog) func128 (by kernel_rfl) (by kernel_rfl) (by kernel_rfl) .i32 (by kernel_rfl) (y:=-1) (s:=0) i hz (by simp[go_sem];rfl);go_enter_d func40,ntmps40
 go_wp2
 go_end0;go_wp2
 go_end0;exact⟨rfl,rfl⟩
theorem pC(b:Nat)(w:World)(u:w.cell? ⟨b,0,none⟩=some (.int .i32 0))(G:w.frozen? ⟨b,0,none⟩=false): Calls prog 39 #[P0 b] w λe w'=>e=.returned (.tuple #[])/\w'=w.setCell ⟨b,0,none⟩ (.int .i32 1):=by
 have J:=disable;have he:=enable;have W:=acquire;have o:=run_call_cas_hit (P:=prog) func123 (by kernel_rfl) (by kernel_rfl) (by kernel_rfl) .i32 (by kernel_rfl) (y:=1) u G;have i:(w.setCell ⟨b,0,none⟩ (.int .i32 1)).cell? ⟨b,0,none⟩=some (.int .i32 1):=by simp[go_sem,u]
 have H:=run_convert_to_unsafe (P:=prog) (src:=210) (dst:=214) underlying210 underlying214 (by kernel_rfl) i;go_in;go_wp2
 first|go_end0|(simp only[Exit.inBlock,Exit.then];refine da (results_none rfl _ _ _) rfl ?_)|refine da (results_none rfl _ _ _) rfl ?_
 go_wp2
 go_end0;exact⟨rfl,rfl⟩
theorem yl(mb eb o c0:Nat)(i:Option Addr)(ticks:Int)(w:World)(H:w.cell? ⟨mb,0,none⟩=some (.int .i32 0))(y:w.frozen? ⟨mb,0,none⟩=false)(W:w.cell? ⟨mb,2,none⟩=some (P0 eb))(R:Value->World->Prop)(u:Hid (Calls prog 41 #[P0 eb,.int .i64 ticks,.slice i o c0] (w.setCell ⟨mb,0,none⟩ (.int .i32 1)) λe w'=>∃ad n c,e=.returned (.slice ad n c)/\w'.cell? ⟨mb,0,none⟩=some (.int .i32 1)/\w'.frozen? ⟨mb,0,none⟩=false/\R (.slice ad n c) w')): Calls prog 24 #[P0 mb,.int .i64 ticks,.slice i o c0] w λe w'=>∃v w1,e=.returned v/\R v w1/\w'=w1.setCell ⟨mb,0,none⟩ (.int .i32 0):=by
 go_enter_defers func24,ntmps24
 go_wp2_with fail
 refine(pC mb w H y).mono ?_;rintro e w1 ⟨rfl,rfl⟩;go_wp2_with fail
 refine u.out.mono ?_;rintro e w2 ⟨ad,n,c,rfl,c0,c1,hR⟩;have G:Hid (R (.slice ad n c) w2):=hR;go_wp2_with fail
 refine leaves_cons (f:=40) (args:=#[P0 mb]) (by simp) (by simp[go_sem]) ?_;refine(ja ⟨mb,0,none⟩ .returning _ c0 c1).mono ?_;rintro e J w'' ⟨rfl,rfl,rfl⟩;exact⟨_,results_tmp rfl _ _ _,.slice ad n c,w2,rfl,G.out,rfl⟩
theorem yD(mb eb:Nat)(w:World)(y:w.cell? ⟨mb,0,none⟩=some (.int .i32 0))(o:w.frozen? ⟨mb,0,none⟩=false)(H:w.cell? ⟨mb,2,none⟩=some (P0 eb))(R:Value->World->Prop)(i:Hid (Calls prog 43 #[P0 eb] (w.setCell ⟨mb,0,none⟩ (.int .i32 1)) λe w'=>∃ad n c,e=.returned (.slice ad n c)/\w'.cell? ⟨mb,0,none⟩=some (.int .i32 1)/\w'.frozen? ⟨mb,0,none⟩=false/\R (.slice ad n c) w')): Calls prog 26 #[P0 mb] w λe w'=>∃v w1,e=.returned v/\R v w1/\w'=w1.setCell ⟨mb,0,none⟩ (.int .i32 0):=by
 go_enter_defers func26,ntmps26
 go_wp2_with fail
 refine(pC mb w y o).mono ?_;rintro e w1 ⟨rfl,rfl⟩;go_wp2_with fail
 refine i.out.mono ?_;rintro e w2 ⟨ad,n,c,rfl,c0,c1,hR⟩;have u:Hid (R (.slice ad n c) w2):=hR;go_wp2_with fail
 refine leaves_cons (f:=40) (args:=#[P0 mb]) (by simp) (by simp[go_sem]) ?_;refine(ja ⟨mb,0,none⟩ .returning _ c0 c1).mono ?_;rintro e G w'' ⟨rfl,rfl,rfl⟩;exact⟨_,results_tmp rfl _ _ _,.slice ad n c,w2,rfl,u.out,rfl⟩
theorem wM(mb eb:Nat)(w:World)(y:w.cell? ⟨mb,0,none⟩=some (.int .i32 0))(o:w.frozen? ⟨mb,0,none⟩=false)(H:w.cell? ⟨mb,2,none⟩=some (P0 eb))(R:Int->World->Prop)(i:Hid (Calls prog 42 #[P0 eb] (w.setCell ⟨mb,0,none⟩ (.int .i32 1)) λe w'=>∃x:Int,e=.returned (.int .i64 x)/\w'.cell? ⟨mb,0,none⟩=some (.int .i32 1)/\w'.frozen? ⟨mb,0,none⟩=false/\R x w')): Calls prog 25 #[P0 mb] w λe w'=>∃x w1,e=.returned (.int .i64 x)/\R x w1/\w'=w1.setCell ⟨mb,0,none⟩ (.int .i32 0):=by
 go_enter_defers func25,ntmps25
 go_wp2_with fail
 refine(pC mb w y o).mono ?_;rintro e w1 ⟨rfl,rfl⟩;go_wp2_with fail
 refine i.out.mono ?_;rintro e w2 ⟨x,rfl,c0,c1,hR⟩;have u:Hid (R x w2):=hR;go_wp2_with fail
 refine leaves_cons (f:=40) (args:=#[P0 mb]) (by simp) (by simp[go_sem]) ?_;refine(ja ⟨mb,0,none⟩ .returning _ c0 c1).mono ?_;rintro e G w'' ⟨rfl,rfl,rfl⟩;exact⟨_,results_tmp rfl _ _ _,x,w2,rfl,u.out,rfl⟩
theorem EG(v:Value)(a:Option Addr)(n c:Nat)(Z:∃u y o,v=.slice u y o)(w:World):Calls prog 138 #[.agg #[v,.slice a n c]] w λe w'=>e=.returned (.bool (decide (n≠0)))/\w.grownBy w' none:=by
 obtain⟨u,y,o,rfl⟩:=Z;by_cases hn:n=0
 .have Y:=az hn;rw[show decide (n≠0)=false by simpa using hn];clear hn;go_in;go_wp2_with fail
  have W:=bf w (.cells #[.slice u y o,.slice a n c] 141);have H:=az (ah w (.cells #[.slice u y o,.slice a n c] 141) none);generalize J:w.alloc (.cells #[.slice u y o,.slice a n c] 141)=w1 at *;clear J;have G:w1.cell? ⟨w.heap.size,1,none⟩=some (.slice a n c):=by simp[World.cell?,W]
  have i:=gP w.heap.size 1 n c a w1 G;rw[show decide (n=0)=true by simpa using Y.out]at i;refine i.mono ?_;rintro e w2 ⟨rfl,rfl⟩;go_wp2_with fail
  go_ret;exact⟨rfl,H.out⟩
 have Y:=az hn;rw[show decide (n≠0)=true by simpa using hn];clear hn;go_in;go_wp2_with fail
 have W:=bf w (.cells #[.slice u y o,.slice a n c] 141);have H:=az (ah w (.cells #[.slice u y o,.slice a n c] 141) none);generalize J:w.alloc (.cells #[.slice u y o,.slice a n c] 141)=w1 at *;clear J;have G:w1.cell? ⟨w.heap.size,1,none⟩=some (.slice a n c):=by simp[World.cell?,W]
 have i:=gP w.heap.size 1 n c a w1 G;rw[show decide (n=0)=false by simpa using Y.out]at i;refine i.mono ?_;rintro e w2 ⟨rfl,rfl⟩;go_wp2_with fail
 go_ret;exact⟨rfl,H.out⟩
def tL(w:World)(eb:Nat)(L:Nat->Nat):Prop:=eb<w.heap.size/\∀j,j<4->(∃a n c,w.cell? ⟨eb,34+j*2,none⟩=some (.slice a n c))/\∃a c,w.cell? ⟨eb,34+j*2+1,none⟩=some (.slice a (L j) c)
theorem tL.kept{w w':World}{eb:Nat}{L:Nat->Nat}(h:tL w eb L)(i:w.grownBy w' none):tL w' eb L:=⟨dm h.1 i.size,λj u=>by
 obtain⟨⟨a,n,c,e⟩,G,y,o⟩:=h.2 j u;exact⟨⟨a,n,c,(bh i (a:=⟨eb,34+j*2,none⟩) h.1).1.trans e⟩,G,y,(bh i (a:=⟨eb,34+j*2+1,none⟩) h.1).1.trans o⟩⟩
theorem Du(eb:Nat)(L:Nat->Nat)(w:World)(h:tL w eb L):Calls prog 191 #[.slice (some ⟨eb,34,none⟩) 4 4,Fv 138 #[]] w λe w'=>(∃x:Int,e=.returned (.int .i64 x)/\(0<=x↔∃k,k<4/\L k≠0))/\w.grownBy w' none:=by
 have HS:=az h;go_in;go_wp2_with fail
 go_loopw [8] (λi wr=>∃j:Nat,i=.int .i64 j/\j<=4/\Hid (∀k,k<j->L k=0)/\Hid (w.grownBy wr none)) (λi _=>4-(intOf i).toNat)
 case atStart=>exact⟨0,rfl,by omega,(λk hk=>by omega),ax _ _⟩
 case round=>
  obtain⟨j,rfl,hj,rL,Y⟩:=hrel;have hS:=HS.out.kept Y.out;by_cases W:j<4
  .obtain⟨⟨a1,n1,c1,e1⟩,a2,c2,H⟩:=hS.2 j W;have J:(j:Int)<4:=by omega
   have o:=az (EG (.slice a1 n1 c1) a2 (L j) c2 ⟨_,_,_,rfl⟩ wr);by_cases G:L j=0
   .have Z:=az G;rw[show decide (L j≠0)=false by simpa using G]at o;clear G;go_wp2_with fail
    refine o.out.mono ?_;rintro e w2 ⟨rfl,u⟩;have y:=az (an Y.out u);clear u e1 H o;go_wp2_with fail
    go_roundw
    case rel=>
     refine⟨j+1,by simp,by omega,(λk hk=>?_),y⟩;by_cases e:k=j
     .rw[e];exact Z.out
     exact rL.out k (by omega)
    case measure=>simp[intOf];omega
   have Z:=az G;rw[show decide (L j≠0)=true by simpa using G]at o;clear G;go_wp2_with fail
   refine o.out.mono ?_;rintro e w2 ⟨rfl,u⟩;have y:=az (an Y.out u);clear u e1 H o;go_wp2_with fail
   go_ret;exact⟨⟨_,rfl,⟨λ_=>⟨j,W,Z.out⟩,λ_=>by omega⟩⟩,y.out⟩
  have J:¬((j:Int)<4):=by omega
  go_wp2_with fail
  go_ret;exact⟨⟨_,rfl,⟨λe=>ch e (by omega),λe=>by
   obtain⟨k,k1,k2⟩:=e;exact ch (rL.out k (by omega)) k2⟩⟩,Y.out⟩
theorem uc(eb:Nat)(L:Nat->Nat)(w:World)(h:tL w eb L):Calls prog 139 #[.slice (some ⟨eb,34,none⟩) 4 4,Fv 138 #[]] w λe w'=>(∃b:Bool,e=.returned (.bool b)/\(b=true↔∃k,k<4/\L k≠0))/\w.grownBy w' none:=by
 have HS:=az h;go_in;go_wp2_with fail
 refine(Du eb L w HS.out).mono ?_;rintro e w2 ⟨⟨x,rfl,hx⟩,hg2⟩;have KG2:=az hg2;have HX:=az hx;clear hg2 hx
 cases hd:decide (0<=x)
 .have HD:=az (by simpa using hd);go_wp2_with fail
  go_ret;exact⟨⟨_,rfl,⟨λe=>(by first|(cases e;done)|exact ch (by simpa using e:0<=x) (by have:=HD.out;omega)),λe=>ch (HX.out.2 e) (by have:=HD.out;omega)⟩⟩,KG2.out⟩
 have HD:=az (by simpa using hd);go_wp2_with fail
 go_ret;exact⟨⟨_,rfl,⟨λ_=>HX.out.1 HD.out,λ_=>by first|rfl|(simpa using HD.out)⟩⟩,KG2.out⟩
theorem Eh(eb n c:Nat)(L:Nat->Nat)(a:Option Addr)(w:World)(u:w.cell? ⟨eb,33,none⟩=some (.slice a n c))(h:tL w eb L):Calls prog 71 #[P0 eb] w λe w'=>(∃b:Bool,e=.returned (.bool b)/\(b=true↔(n≠0\/∃k,k<4/\L k≠0)))/\w.grownBy w' none:=by
 have HS:=az h;have le:=h.1;by_cases hn:n=0
 .have i:=gP eb 33 n c a w u;rw[show decide (n=0)=true by simpa using hn]at i;have o:=az i;have G:=az hn;go_in;go_wp2_with fail
  refine o.out.mono ?_;rintro e w1 ⟨rfl,rfl⟩;go_wp2_with fail
  refine(uc eb L _ HS.out).mono ?_;rintro e w2 ⟨⟨b,rfl,W⟩,y⟩;have H:=az y;have J:=az W;go_wp2_with fail
  go_ret;exact⟨⟨_,rfl,⟨λe=>ab (J.out.1 e),λe=>e.elim (λe=>ch G.out e) (λe=>J.out.2 e)⟩⟩,H.out⟩
 have i:=gP eb 33 n c a w u;rw[show decide (n=0)=false by simpa using hn]at i;have o:=az i;have G:=az hn;go_in;go_wp2_with fail
 refine o.out.mono ?_;rintro e w1 ⟨rfl,rfl⟩;go_wp2_with fail
 go_ret;exact⟨⟨_,rfl,⟨λ_=>ag G.out,λ_=>rfl⟩⟩,ax _ _⟩
def J0(sp:Bool)(n29 n32 n33:Nat)(L:Nat->Nat)(x:Int):Prop:=(sp=true->x=5)/\(sp=false->n29=0->x=4)/\(sp=false->n29≠0->n32≠0->x=1)/\(sp=false->n29≠0->n32=0->(n33≠0\/∃k,k<4/\L k≠0)->x=2)/\(sp=false->n29≠0->n32=0->¬(n33≠0\/∃k,k<4/\L k≠0)->x=3)
theorem Et(eb:Nat)(sp:Bool)(L:Nat->Nat)(y a8 G a5 Z a0:Nat)(a4 a1 a6:Option Addr)(w:World)(a9:w.cell? ⟨eb,42,none⟩=some (.bool sp))(a3:w.cell? ⟨eb,29,none⟩=some (.slice a4 y a8))(a2:w.cell? ⟨eb,32,none⟩=some (.slice a1 G a5))(a7:w.cell? ⟨eb,33,none⟩=some (.slice a6 Z a0))(h:tL w eb L): Calls prog 42 #[P0 eb] w λe w'=>(∃x:Int,e=.returned (.int .i64 x)/\J0 sp y G Z L x)/\w.grownBy w' none:=by
 have o:=uy eb y a8 a4 w a3;have i:=gP eb 32 G a5 a1 w a2;have HW:=az (Eh eb Z a0 L a6 w a7 h);have le:=h.1
 cases sp
 .by_cases H:y=0
  .have W:=az H;rw[show decide (0<y)=false by simpa using H]at o;have J:=az o;go_in;go_wp2_with fail
   refine J.out.mono ?_;rintro e w4 ⟨rfl,rfl⟩;go_wp2_with fail
   go_ret;exact⟨⟨4,rfl,(λe=>by cases e),(λ_ _=>rfl),(λ_ e=>ch W.out e),(λ_ e=>ch W.out e),(λ_ e=>ch W.out e)⟩,ax _ _⟩
  have W:=az H;rw[show decide (0<y)=true by simp;omega]at o;have J:=az o;by_cases u:G=0
  .have HQ:=az u;rw[show decide (G=0)=true by simpa using u]at i;have Y:=az i;go_in;go_wp2_with fail
   refine J.out.mono ?_;rintro e w4 ⟨rfl,rfl⟩;go_wp2_with fail
   refine Y.out.mono ?_;rintro e w5 ⟨rfl,rfl⟩;go_wp2_with fail
   refine HW.out.mono ?_;rintro e w6 ⟨⟨b,rfl,hb⟩,hg⟩;have KG:=az hg;have HB:=az hb
   cases b
   .go_wp2_with fail
    go_ret;exact⟨⟨3,rfl,(λe=>by cases e),(λ_ e=>ch e W.out),(λ_ _ e=>ch HQ.out e),(λ_ _ _ e=>by have h9:=HB.out.2 e;cases h9),(λ_ _ _ _=>rfl)⟩,KG.out⟩
   go_wp2_with fail
   go_ret;exact⟨⟨2,rfl,(λe=>by cases e),(λ_ e=>ch e W.out),(λ_ _ e=>ch HQ.out e),(λ_ _ _ _=>rfl),(λ_ _ _ e=>ch (HB.out.1 (by first|exact rfl|trivial)) e)⟩,KG.out⟩
  have HQ:=az u;rw[show decide (G=0)=false by simpa using u]at i;have Y:=az i;go_in;go_wp2_with fail
  refine J.out.mono ?_;rintro e w4 ⟨rfl,rfl⟩;go_wp2_with fail
  refine Y.out.mono ?_;rintro e w5 ⟨rfl,rfl⟩;go_wp2_with fail
  go_ret;exact⟨⟨1,rfl,(λe=>by cases e),(λ_ e=>ch e W.out),(λ_ _ _=>rfl),(λ_ _ e=>ch e HQ.out),(λ_ _ e=>ch e HQ.out)⟩,ax _ _⟩
 go_in;go_wp2_with fail
 go_ret;exact⟨⟨5,rfl,(λ_=>rfl),(λe=>by cases e),(λe=>by cases e),(λe=>by cases e),(λe=>by cases e)⟩,ax _ _⟩
